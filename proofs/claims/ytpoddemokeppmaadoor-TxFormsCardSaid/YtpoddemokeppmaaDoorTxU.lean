/- The contracts of both Owners. -/
import Derived.Test.YtpoddemokeppmaaDoorTxX
import Derived.Test.YtpoddemokeppmaaDoorTgD
set_option linter.unusedVariables false
set_option linter.unusedSimpArgs false
namespace Go.Proofs.YtpoddemokeppmaaDoor
open Go.RowKit
abbrev ZIL : Array Value := #[Value.int .u8 0, Value.int .u8 0, Value.int .u8 0, Value.int .u8 0, Value.int .u8 0, Value.int .u8 0, Value.int .u8 0, Value.int .u8 0, Value.int .u8 0, Value.int .u8 0, Value.int .u8 0, Value.int .u8 0, Value.int .u8 0, Value.int .u8 0, Value.int .u8 0, Value.int .u8 0, Value.int .u8 0, Value.int .u8 0, Value.int .u8 0, Value.int .u8 0, Value.int .u8 0, Value.int .u8 0, Value.int .u8 0, Value.int .u8 0, Value.int .u8 0, Value.int .u8 0, Value.int .u8 0, Value.int .u8 0, Value.int .u8 0, Value.int .u8 0, Value.int .u8 0, Value.int .u8 0]
set_option maxRecDepth 100000 in
theorem under_one (m : B8) (b : List B8) : underB m [b] = m :: longB b := by simp [underB]
def ownD (b : List B8) : List B8 := dig (9 :: longB b)
set_option maxRecDepth 100000 in
theorem ownD_len (b : List B8) : (ownD b).length = 32 := dig_len _
set_option maxRecDepth 100000 in
/-- A list of one text, made here. -/
theorem lst_one {w : World} (A : Option Addr) (b : List B8) (c : Nat) (hB : Bts w A b) (hc : b.length ≤ c) (t : TypeId) :
    Lst (w.alloc (.cells #[.slice A b.length c] t)) (some ⟨w.heap.size, 0, none⟩) [b] := by
  intro i xs hi
  match i, hi with
  | 0, hi =>
    obtain rfl : b = xs := by simpa using hi
    refine ⟨_, A, c, rfl, ?_, hc, hB.below ((Below.refl _ _).alloc (Nat.le_refl _) _)⟩
    show World.cell? _ ⟨w.heap.size, 0, none⟩ = _
    rw [cell_of_row _ _ _ _ _ _ (heap_alloc_new w _)]; rfl
set_option maxRecDepth 100000 in
set_option maxHeartbeats 1000000 in
theorem owner_any (A : Option Addr) (c : Nat) (b : List B8) (w : World) (hB : Bts w A b) (hc : b.length ≤ c) (hG : Glob w) (hb : b.length ≤ 1000000000) :
    Calls Tryd.prog 20 #[.slice A b.length c] w fun e w' => e = .returned (.agg ((ownD b).map bv).toArray) ∧ Below w.heap.size w w' := by
  have U := Lib.hid (fun (g : Nat) (w : World) (hL : Lst w (some ⟨g, 0, none⟩) [b]) (hG : Glob w) => under_any 9 (some ⟨g, 0, none⟩) 1 [b] w hL hG (by rw [under_one]; simp [longB, wb_len]; omega) (by simp))
  rw [under_one] at U
  obtain ⟨C, hC⟩ : ∃ C, C = ((ownD b).map bv).toArray := ⟨_, rfl⟩
  unfold ownD at hC
  have hC32 : C.size = 32 := by rw [hC]; simp [dig_len]
  unfold ownD
  rw [← hC] at U ⊢
  have H1 := Lib.hid (show (Tryd.prog.info? 35).map (·.size) = some C.size by rw [hC32]; kernel_rfl)
  have H3 := Lib.hid (show C.all (·.oneCell') = true by rw [hC]; exact bvs_one _)
  have HC32 := Lib.hid hC32
  have HG := Lib.hid hG
  have HB := Lib.hid hB
  clear hC hC32 hG hB
  go_enter Tryd.func20, Tryd.ntmps20
  go_wp2_with fail
  obtain ⟨w1, hw1⟩ : ∃ w1, w1 = w.alloc (.cells ZIL 35) := ⟨_, rfl⟩
  have hs1 : w1.heap.size = w.heap.size + 1 := by rw [hw1]; simp
  have hb1 : Below w.heap.size w w1 := by rw [hw1]; exact (Below.refl _ _).alloc (Nat.le_refl _) _
  have hz1 : w1.heap[w.heap.size]? = some (.cells ZIL 35 (0, 0)) := by rw [hw1]; exact heap_alloc_new w _
  have hL := lst_one A b c (HB.out.below hb1) hc 29
  have hb2 : Below w.heap.size w (w1.alloc (.cells #[.slice A b.length c] 29)) := hb1.alloc (by omega) _
  have U1 := Lib.hid (U.out w1.heap.size _ hL ((HG.out.below hb1 HG.out.1).alloc _))
  have HZ := Lib.hid (heap_below ((Below.refl w1.heap.size w1).alloc (Nat.le_refl _) (.cells #[.slice A b.length c] 29)) hz1)
  have HB2 := Lib.hid hb2
  have HW := Lib.hid hw1
  rw [hs1] at U1
  rw [← hw1]
  clear hL hb1 hb2 hz1 hw1
  refine U1.out.mono ?_
  rintro e w2 ⟨rfl, hb3⟩
  have HA := Lib.hid (heap_below hb3 HZ.out)
  have HB3 := Lib.hid (HB2.out.trans (hb3.mono HB2.out.size))
  have H2 := Lib.hid (show ZIL.size = C.size by rw [HC32.out]; rfl)
  clear hb3
  go_wp2_with (refine wpList_store_row rfl _ _ _ rfl w.heap.size C rfl rfl _ ZIL HA.out H1.out H2.out H3.out ?_)
  have hA2 := setRow_heap w2 w.heap.size ZIL C 35 (0, 0) HA.out
  refine bodyPost_ret (v := .agg C) ?_ rfl ⟨rfl, below_setRow HB3.out (Nat.le_refl _) C⟩
  exact results_cell_row Tryd.results20 _ _ w.heap.size _ C (0, 0) _ rfl hA2 Tryd.underlying35 rfl H1.out
set_option maxRecDepth 100000 in
theorem own_bts {w : World} {B n g cap : Nat} {l : List B8} (h : w.ownsRow B 5 1 (.slice (some ⟨g, 0, none⟩) n cap) n (l.map bv)) : Bts w (some ⟨g, 0, none⟩) l := fun j u hu => ⟨_, rfl, h.cells rfl j u hu⟩
set_option maxRecDepth 100000 in
set_option maxHeartbeats 2000000 in
theorem rowner_any (A : Option Addr) (c : Nat) (b : List B8) (w : World) (hB : Bts w A b) (hA : A = none → c = 0) (hc : b.length ≤ c) (hb : b.length ≤ 1000000) :
    Calls Tryd.prog 19 #[.slice A b.length c] w fun e w' => e = .returned (.agg ((ownD b).map bv).toArray) ∧ Below w.heap.size w w' := by
  obtain ⟨i0, hi, hz0, hz1, hz2⟩ := info_parts info_u8
  obtain ⟨C, hC⟩ : ∃ C, C = ((ownD b).map bv).toArray := ⟨_, rfl⟩
  have hC32 : C.size = 32 := by rw [hC]; simp [ownD_len]
  have H3 := Lib.hid (show C.all (·.oneCell') = true by rw [hC]; exact bvs_one _)
  have H1 := Lib.hid (show (Tryd.prog.info? 35).map (·.size) = some C.size by rw [hC32]; kernel_rfl)
  have H2 := Lib.hid (show ZIL.size = C.size by rw [hC32]; rfl)
  have O := Lib.hid (fun (g cap : Nat) (w : World) (h : Bts w (some ⟨g, 0, none⟩) (9 :: longB b)) (hc : 1 + (4 + b.length) ≤ cap) => of_any (some ⟨g, 0, none⟩) cap (9 :: longB b) w h (fun h => by cases h) (by rw [List.length_cons, long_len]; omega) (by rw [List.length_cons, long_len]; omega))
  have e1 : (9 :: longB b).length = 1 + (4 + b.length) := by rw [List.length_cons, long_len]; omega
  rw [e1] at O
  rw [← hC]
  unfold ownD at hC
  rw [← hC] at O
  obtain ⟨w1, hw1⟩ : ∃ w1, w1 = (w.alloc (.cells ZIL 35)).alloc (.cells #[bv 9] 5) := ⟨_, rfl⟩
  have hb1 : Below w.heap.size w w1 := by rw [hw1]; exact ((Below.refl _ _).alloc (Nat.le_refl _) _).alloc (by simp) _
  have hz1' : w1.heap[w.heap.size]? = some (.cells ZIL 35 (0, 0)) := by rw [hw1]; exact heap_alloc2_old w _ _
  have ho1 : w1.ownsRow (w.heap.size + 1) 5 1 (.slice (some ⟨w.heap.size + 1, 0, none⟩) 1 1) 1 [bv 9] := by
    have := own_new (w.alloc (.cells ZIL 35)) (w.heap.size + 1) 5 [bv 9] 1 rfl (by simp) (by unfold maxLen; omega)
    rw [show (w.alloc (.cells ZIL 35)).heap.size = w.heap.size + 1 by simp] at this
    rw [hw1]; exact this
  have L := Lib.hid (long_any A c b w1 (hB.below hb1) hA (by omega))
  have HB1 := Lib.hid hb1
  have HZ1 := Lib.hid hz1'
  have HO1 := Lib.hid ho1
  have hs1 : w1.heap.size = w.heap.size + 2 := by rw [hw1]; simp
  clear hC hC32 hB hb1 hz1' ho1 e1
  go_enter Tryd.func19, Tryd.ntmps19
  go_wp2_with (go_at_call 41; refine stop ?_)
  unfold Stop
  change w1 = (w.alloc (.cells ZIL 35)).alloc (.cells #[.int .u8 9] 5) at hw1
  rw [← hw1]
  clear hw1
  generalize Value.slice (some ⟨w.heap.size + 1, 0, none⟩) 1 1 = v3 at *
  refine L.out.mono ?_
  rintro e w2 ⟨v5, rfl, ho5, hb2⟩
  obtain ⟨g, cap, rfl, hg1, hg2⟩ := ho5.form (by omega)
  have HO2 := Lib.hid (own_below HO1.out hb2)
  have HB2 := Lib.hid (HB1.out.trans (hb2.mono HB1.out.size))
  have HZ2 := Lib.hid (heap_below hb2 HZ1.out)
  have H5 := Lib.hid (own_bts ho5)
  have hs2 := hb2.size
  clear ho5 hb2
  go_wp2_with (at_builtin; refine stop ?_)
  unfold Stop
  refine wpList_append_any (o := ⟨some 6, _, _, _, _, _⟩) rfl _ _ 29 rfl (w.heap.size + 1) 5 i0 (.int .u8 0) 1 Tryd.underlying29 hi hz0 hz1 hz2 rfl _ 1 _ rfl HO2.out (some ⟨g, 0, none⟩) (4 + b.length) cap ((longB b).map bv) rfl (fun h => by cases h) (by rw [List.length_map, long_len]) H5.out (bv_one _) ?_ ?_ ?_ ?_
  · unfold maxLen; omega
  · omega
  · omega
  intro v6 w3 g1 g2
  obtain ⟨g', cap', rfl, hg3, hg4⟩ := World.ownsRow.form g1 (by omega)
  have HX := Lib.hid (show Bts w3 (some ⟨g', 0, none⟩) (9 :: longB b) from own_bts (l := 9 :: longB b) g1)
  have HB3 := Lib.hid (HB2.out.grown g2 (by omega) (fun k hk => by have := (HO2.out.lt k hk).1; omega))
  have HZ3 := Lib.hid ((g2.block _ (lt_of_block HZ2.out) (fun h => by have := (HO2.out.lt _ h.symm).1; omega)).trans HZ2.out)
  have hcap := own_cap g1
  clear g1 g2
  go_wp2_with (go_at_call 40; refine stop ?_)
  unfold Stop
  refine (O.out g' cap' w3 HX.out hcap).mono ?_
  rintro e w4 ⟨rfl, hb4⟩
  have HA := Lib.hid (heap_below hb4 HZ3.out)
  have HB4 := Lib.hid (HB3.out.trans (hb4.mono HB3.out.size))
  clear hb4
  go_wp2_with (refine wpList_store_row rfl _ _ _ rfl w.heap.size C rfl rfl _ ZIL HA.out H1.out H2.out H3.out ?_)
  have hA2 := setRow_heap w4 w.heap.size ZIL C 35 (0, 0) HA.out
  refine bodyPost_ret (v := .agg C) ?_ rfl ⟨rfl, below_setRow HB4.out (Nat.le_refl _) C⟩
  exact results_cell_row Tryd.results19 _ _ w.heap.size _ C (0, 0) _ rfl hA2 Tryd.underlying35 rfl H1.out
end Go.Proofs.YtpoddemokeppmaaDoor
