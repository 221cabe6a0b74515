/- Merged: 'HeaderNext': its walk, over what 'awake' comes to. The contracts of the code's 'Sum' and 'Under'. The contract of the code's 'Same', and the document's example. Tags as plain functions; the contracts of the code's 'filled' and 'turned'. The contract of the code's 'turned'. The contract of the code's 'Of': the tag of bytes under a key. -/
import Derived.Test.YthoaaieiiokcmaaGreatDoorM18
import Derived.Test.YthoaaieiiokcmaaGreatDoorM01
import Derived.Lib.SlBytesConst
import Derived.Test.YthoaaieiiokcmaaGreatDoorM09
namespace Go.Proofs.YthoaaieiiokcmaaGreatDoor
section
set_option linter.unusedVariables false
set_option linter.unusedSimpArgs false
open Go.RowKit
/-- The leaves, or none. -/
def LSof (b : List B8) (e : Ent) (n : Nat) : List (List B8) := if okL e n then [b, formE e, numB n] else []
theorem LSof_le (b : List B8) (e : Ent) (n : Nat) : (LSof b e n).length ≤ 3 := by
  unfold LSof
  split <;> simp
theorem ent_le (e : Ent) (hd : e.d.length = 32) (h : okB e) : (formE e).length ≤ 100 := by
  unfold okB at h
  unfold formE
  have n1 := numB_le (n := e.k.toNat) (by omega)
  have n2 := numB_le (n := e.s.toNat) (by omega)
  have n3 := numB_le (n := e.a) (by omega)
  have n4 := numB_le (n := e.y.toNat) (by omega)
  have n5 := numB_le (n := e.p.toNat) (by omega)
  simp only [List.length_append]
  omega
theorem LSof_small (b : List B8) (e : Ent) (n : Nat) (hd : e.d.length = 32) (hb : b.length ≤ 1000000) (hn : n < 18446744073709551616) : ∀ xs ∈ LSof b e n, xs.length ≤ 1000000 := by
  unfold LSof
  split
  · rename_i h
    intro xs hx
    simp only [List.mem_cons, List.not_mem_nil, or_false] at hx
    rcases hx with rfl | rfl | rfl
    · exact hb
    · have := ent_le e hd h.1; omega
    · have := numB_le hn; omega
  · simp
theorem lstn_nil (w : World) (A : Option Addr) : LstN w A [] := fun i xs h => by simp at h
theorem lstn_turn {w w' : World} {A : Option Addr} {ls : List (List B8)} (h : LstN w A ls) (t : Turn (fun _ => False) w w') : LstN w' A ls := h.below (turn_stp' t)
theorem hleaves_u (A : Option Addr) (c : Nat) (b : List B8) (e : Ent) (n : Nat) (w : World) (hB : Bts w A b) (hA : A = none → c = 0) (hc : b.length ≤ c) (hlen : b.length ≤ 1000000) (hd : e.d.length = 32) (hn : n < 18446744073709551616) :
    Calls Tryz.prog 13 #[.slice A b.length c, .agg e.cells.toArray, .int .u64 (n : Int)] w fun r w' => Turn (fun _ => False) w w' ∧ ∃ L, r = .returned (.tuple #[.slice L (LSof b e n).length (LSof b e n).length, .bool (decide (okL e n))]) ∧ LstN w' L (LSof b e n) ∧ (L = none → (LSof b e n).length = 0) := by
  refine (hleaves_any A c b e n w hB hA hc hlen hd hn).mono ?_
  rintro r w' ⟨t, h⟩
  refine ⟨t, ?_⟩
  unfold LSof
  by_cases hk : okL e n
  · rw [if_pos hk] at h
    obtain ⟨g, rfl, -, hl⟩ := h
    rw [if_pos hk, decide_eq_true hk]
    exact ⟨_, rfl, hl, fun h => by cases h⟩
  · rw [if_neg hk] at h
    rw [if_neg hk, decide_eq_false hk]
    exact ⟨none, h, lstn_nil _ _, fun _ => rfl⟩
theorem rleaves_u (A : Option Addr) (c : Nat) (b : List B8) (e : Ent) (n : Nat) (w : World) (hB : Bts w A b) (hA : A = none → c = 0) (hc : b.length ≤ c) (hd : e.d.length = 32) (hn : n < 18446744073709551616) :
    Calls Tryz.prog 17 #[.slice A b.length c, .agg e.cells.toArray, .int .u64 (n : Int)] w fun r w' => Turn (fun _ => False) w w' ∧ ∃ L, r = .returned (.slice L (LSof b e n).length (LSof b e n).length) ∧ LstN w' L (LSof b e n) ∧ (L = none → (LSof b e n).length = 0) := by
  refine (rleaves_any A c b e n w hB hA hc hd hn).mono ?_
  rintro r w' ⟨t, h⟩
  refine ⟨t, ?_⟩
  unfold LSof
  by_cases hk : okL e n
  · rw [if_pos hk] at h
    obtain ⟨g, rfl, -, hl⟩ := h
    rw [if_pos hk]
    exact ⟨_, rfl, hl, fun h => by cases h⟩
  · rw [if_neg hk] at h
    rw [if_neg hk]
    exact ⟨none, h, lstn_nil _ _, fun _ => rfl⟩
theorem nxV_L (prev : Hdr) (first : Bool) (n : Nat) (root : List B8) (shard epoch : Int) (hr : root.length = 32) : (nxV prev first n root shard epoch).L := by
  unfold nxV
  split
  · exact nxB_L _ _ _ _ _ hr
  · exact HZ_L
attribute [local go_sem ↓] loadAt_hd loadAt_en loadAt_id
attribute [local go_sem] run_hdLoad run_enLoad run_idLoad rowOf_drew rowOf_drewN
end
section

open Go.RowKit

set_option maxRecDepth 100000 in
set_option maxHeartbeats 2000000 in
theorem sum_any (A : Option Addr) (c : Nat) (ls : List (List B8)) (w : World) (hL : Lst w A ls) (hG : Glob w) (hlen : ls.flatten.length ≤ 1099511627000) (hl : ls.length ≤ 1099511627000) :
    Calls Tryz.prog 51 #[.slice A ls.length c] w fun e w' => e = .returned (.agg ((dig ls.flatten).map bv).toArray) ∧ Below w.heap.size w w' := by
  have c0 : w.cell? ⟨0, 0, none⟩ = some (.int .u32 (H8.a.toNat : Int)) := hG.2.2 0 (by omega)
  have c1 : w.cell? ⟨0, 1, none⟩ = some (.int .u32 (H8.b.toNat : Int)) := hG.2.2 1 (by omega)
  have c2 : w.cell? ⟨0, 2, none⟩ = some (.int .u32 (H8.c.toNat : Int)) := hG.2.2 2 (by omega)
  have c3 : w.cell? ⟨0, 3, none⟩ = some (.int .u32 (H8.d.toNat : Int)) := hG.2.2 3 (by omega)
  have c4 : w.cell? ⟨0, 4, none⟩ = some (.int .u32 (H8.e.toNat : Int)) := hG.2.2 4 (by omega)
  have c5 : w.cell? ⟨0, 5, none⟩ = some (.int .u32 (H8.f.toNat : Int)) := hG.2.2 5 (by omega)
  have c6 : w.cell? ⟨0, 6, none⟩ = some (.int .u32 (H8.g.toNat : Int)) := hG.2.2 6 (by omega)
  have c7 : w.cell? ⟨0, 7, none⟩ = some (.int .u32 (H8.h.toNat : Int)) := hG.2.2 7 (by omega)
  have h2 := hG.1
  have HL := Lib.hid hL
  have HGl := Lib.hid hG
  clear hL hG
  have h0 : 0 < w.heap.size := by omega
  go_enter Tryz.func51, Tryz.ntmps51
  have HB := Lib.hid (built_dig (H8.a.toNat : Int) (H8.b.toNat : Int) (H8.c.toNat : Int) (H8.d.toNat : Int) (H8.e.toNat : Int) (H8.f.toNat : Int) (H8.g.toNat : Int) (H8.h.toNat : Int))
  have H1 := Lib.hid (show (Tryz.prog.info? 130).map (·.size) = some (dcells H8 (zeros 64) 0 0).size by rw [dcells_size _ _ _ _ rfl]; kernel_rfl)
  have H3 := Lib.hid (show 74 = (dcells H8 (zeros 64) 0 0).size by rw [dcells_size _ _ _ _ rfl])
  have H4 := Lib.hid (dcells_one H8 (zeros 64) 0 0)
  have hzd := zero_dig
  go_wp2_with (first
    | (refine wpList_build_eq rfl 130 #[(0, .tmp 6)] rfl (dcells H8 (zeros 64) 0 0) HB.out ?_)
    | (refine wpList_store_row rfl _ _ _ rfl (w.heap.size + 1) (dcells H8 (zeros 64) 0 0) rfl rfl 130 _ (heap_alloc2_new w _ _) H1.out H3.out H4.out ?_))
  obtain ⟨w1, hw1⟩ : ∃ w1, w1 = ((w.alloc (.cells ((zeros 32).map bv).toArray 24)).alloc (.cells Z74 130)).setRow (w.heap.size + 1) (dcells H8 (zeros 64) 0 0) := ⟨_, rfl⟩
  have hd1 : DigAt w1 (w.heap.size + 1) [] := ⟨H8, zeros 64, 0, eat_nil, by rw [hw1]; exact setRow_heap _ _ _ _ _ _ (heap_alloc2_new w _ _)⟩
  have hb1 : Below w.heap.size w w1 := by
    rw [hw1]; exact below_setRow (((Below.refl _ _).alloc (Nat.le_refl _) _).alloc (by simp) _) (by omega) _
  have hz1 : ∃ Z, w1.heap[w.heap.size]? = some (.cells Z 24 (0, 0)) ∧ 32 = Z.size := ⟨_, by rw [hw1, setRow_other _ _ _ _ (by omega)]; exact heap_alloc2_old _ _ _, rfl⟩
  have HW := Lib.hid hw1
  have HD1 := Lib.hid hd1
  have HB1 := Lib.hid hb1
  have HZ1 := Lib.hid hz1
  change Code.wp _ _ _ _ (((w.alloc (.cells ((zeros 32).map bv).toArray 24)).alloc (.cells Z74 130)).setRow (w.heap.size + 1) (dcells H8 (zeros 64) 0 0))
  rw [← hw1]
  clear hw1 hd1 hb1 hz1 HB H1 H3 H4 hzd c0 c1 c2 c3 c4 c5 c6 c7
  go_wp2_with fail
  go_loopw [5, 10] (fun _ i wr => ∃ k : Nat, k ≤ ls.length ∧ i = .int .i64 k ∧ DigAt wr (w.heap.size + 1) (ls.take k).flatten ∧ Below w.heap.size w wr ∧ (∃ Z, wr.heap[w.heap.size]? = some (.cells Z 24 (0, 0)) ∧ 32 = Z.size)) (fun _ i _ => ls.length - (intOf i).toNat)
  case atStart => exact ⟨0, Nat.zero_le _, rfl, HD1.out, HB1.out, HZ1.out⟩
  case round =>
    clear HD1 HB1 HZ1 HW
    obtain ⟨k, hk, rfl, hd, hb, hz⟩ := hrel
    have hGr := HGl.out.below hb HGl.out.1
    by_cases hlt : k < ls.length
    · obtain ⟨ad, Ai, ci, rfl, hc, hci, hs⟩ := HL.out k ls[k] (List.getElem?_eq_getElem hlt)
      have hcr : wr.cell? (ad.add k) = some (.slice Ai ls[k].length ci) := (hb.cell (World.block_lt_of_cell? w _ hc)).trans hc
      have hfl : (ls.take (k + 1)).flatten = (ls.take k).flatten ++ ls[k] := by
        rw [List.take_succ_eq_append_getElem hlt, List.flatten_append]; simp
      have hle : (ls.take k).flatten.length + ls[k].length ≤ 1099511627000 := by
        rw [← List.length_append, ← hfl]
        have hq : ls.flatten.length = (ls.take (k + 1)).flatten.length + (ls.drop (k + 1)).flatten.length := by rw [← List.length_append, ← List.flatten_append, List.take_append_drop]
        omega
      have T := Lib.hid (take_any (w.heap.size + 1) (ls.take k).flatten Ai ci ls[k] wr (hs.src hb rfl (by omega)) hci hd hGr (by omega) (by omega))
      have HFL := Lib.hid hfl
      have HD := Lib.hid hd
      have HB := Lib.hid hb
      have HZ := Lib.hid hz
      clear hfl hle hs hc hd hb hz hGr
      generalize hx : ls[k] = xs at *
      clear hx
      go_wp2_with (go_at_call 84; ((with_reducible refine T.out.mono ?_); rintro e w2 ⟨rfl, hb2, hd2⟩))
      go_roundw
      case rel =>
        refine ⟨k + 1, by omega, by go_num, by rw [HFL.out]; exact hd2, below_of_grown HB.out hb2 HB.out.size (by omega), ?_⟩
        obtain ⟨Z, h1, h2⟩ := HZ.out
        exact ⟨Z, (hb2.block _ (lt_of_block h1) (by intro e; injection e; omega)).trans h1, h2⟩
      case measure => simp [intOf]; omega
    · rw [show ls.take k = ls from List.take_of_length_le (by omega)] at hd
      have T := Lib.hid (end_any (w.heap.size + 1) ls.flatten wr hd hGr (by omega) (by omega))
      obtain ⟨C, hC⟩ : ∃ C, C = ((dig ls.flatten).map bv).toArray := ⟨_, rfl⟩
      rw [← hC] at T
      have hC32 : C.size = 32 := by rw [hC]; simp [dig_len]
      have H1 := Lib.hid (show (Tryz.prog.info? 24).map (·.size) = some C.size by rw [hC32]; kernel_rfl)
      have H3 := Lib.hid (show C.all (·.oneCell') = true by rw [hC]; exact bvs_one _)
      have HC32 := Lib.hid hC32
      have HCC := Lib.hid hC
      have HB := Lib.hid hb
      have HZ := Lib.hid hz
      clear hC hC32 hd hb hz hGr
      go_wp2_with fail
      refine T.out.mono ?_
      rintro e w2 ⟨rfl, hb2⟩
      obtain ⟨Z, hZ, hZs⟩ := HZ.out
      have HA := Lib.hid ((hb2.block _ (lt_of_block hZ) (by intro e; injection e; omega)).trans hZ)
      have H2 := Lib.hid (show Z.size = C.size by rw [HC32.out, ← hZs])
      clear hZ hZs
      go_wp2_with (refine wpList_store_row rfl _ _ _ rfl w.heap.size C rfl rfl _ Z HA.out H1.out H2.out H3.out ?_)
      have hA2 := setRow_heap w2 w.heap.size Z C 24 (0, 0) HA.out
      refine bodyPost_ret (v := .agg C) ?_ rfl ⟨by rw [HCC.out], below_setRow (below_of_grown HB.out hb2 HB.out.size (by omega)) (Nat.le_refl _) C⟩
      exact results_cell_row Tryz.results51 _ _ w.heap.size _ C (0, 0) _ rfl hA2 Tryz.underlying24 rfl H1.out
end
section

open Go.RowKit

set_option maxRecDepth 100000 in
set_option maxHeartbeats 1000000 in
theorem same_any (a b : List B8) (w : World) (ha : a.length = 32) (hb : b.length = 32) :
    Calls Tryz.prog 61 #[.agg (a.map bv).toArray, .agg (b.map bv).toArray] w fun e w' => e = .returned (.bool (decide (a = b))) ∧ Below w.heap.size w w' := by
  have ra := row_at a ha _ w.heap.size _ _ (heap_alloc2_old w (.cells (a.map bv).toArray 24) (.cells (b.map bv).toArray 24))
  have rb := row_at b hb _ (w.heap.size + 1) _ _ (heap_alloc2_new w (.cells (a.map bv).toArray 24) (.cells (b.map bv).toArray 24))
  have hbz : Below w.heap.size w ((w.alloc (.cells (a.map bv).toArray 24)).alloc (.cells (b.map bv).toArray 24)) := ((Below.refl _ _).alloc (Nat.le_refl _) _).alloc (by simp) _
  have RA := Lib.hid ra
  have RB := Lib.hid rb
  have HBZ := Lib.hid hbz
  have HA := Lib.hid ha
  have HB := Lib.hid hb
  clear ra rb hbz ha hb
  generalize (a.map bv).toArray = CA at *
  generalize (b.map bv).toArray = CB at *
  go_enter Tryz.func61, Tryz.ntmps61
  go_wp2
  generalize (w.alloc (.cells CA 24)).alloc (.cells CB 24) = wz at *
  go_loopw [5, 6, 7] (fun u _ i wr => ∃ (k n : Nat) (x : B8), k ≤ 32 ∧ i = .int .i64 k ∧ u = .int .u8 (x.toNat : Int) ∧ (x = 0 ↔ a.take k = b.take k) ∧ wr = wz.drewN n) (fun _ _ i _ => 32 - (intOf i).toNat)
  case atStart => exact ⟨0, 0, 0, Nat.zero_le _, rfl, rfl, by simp, rfl⟩
  case round =>
    obtain ⟨k, n, u, hk, rfl, rfl, hu, rfl⟩ := hrel
    have HU := Lib.hid hu
    clear hu
    by_cases hlt : k < 32
    · have hn := Lib.hid (take_eq a b k HA.out HB.out hlt)
      have ca := RA.out k hlt
      have cb := RB.out k hlt
      generalize a.getD k 0 = x at *
      generalize b.getD k 0 = y at *
      unfold bv at ca cb
      go_wp2
      go_quiet (fail)
      go_wp2
      go_roundw
      case rel => exact ⟨k + 1, n + nq, u ||| (x ^^^ y), by omega, by go_num, by rw [(bbits x y).2.2, (bbits u (x ^^^ y)).2.1], by rw [or_zero, HU.out, hn.out], rfl⟩
      case measure => simp [intOf]; omega
    · have e : decide (a = b) = decide (u = 0) := by
        have := HU.out
        rw [show k = 32 by omega, List.take_of_length_le (by rw [HA.out]; omega), List.take_of_length_le (by rw [HB.out]; omega)] at this
        rw [decide_eq_decide]; exact this.symm
      have hz : ((u.toNat : Int) == 0) = decide (u = 0) := by
        by_cases h0 : u = 0
        · subst h0; rfl
        · have : u.toNat ≠ 0 := fun h => h0 (BitVec.eq_of_toNat_eq h)
          rw [decide_eq_false h0]; exact beq_false_of_ne (by omega)
      have HE := Lib.hid e
      have HZ := Lib.hid hz
      clear e hz
      go_wp2
      go_ret
      refine ⟨?_, below_drewN HBZ.out⟩
      show Ending.returned (Value.bool ((u.toNat : Int) == 0)) = _
      rw [HZ.out, HE.out]
end
section
set_option linter.unusedVariables false
open Go.RowKit
/- A tag, plainly. -/
set_option maxRecDepth 100000 in
set_option maxHeartbeats 2000000 in
theorem filled_any (A : Option Addr) (c : Nat) (key : List B8) (w : World) (hB : Bts w A key) (hc : key.length ≤ c) (hG : Glob w) (hk : key.length ≤ 1000000) :
    Calls Tryz.prog 49 #[.slice A key.length c] w fun e w' => e = .returned (.agg ((fillK key).map bv).toArray) ∧ Below w.heap.size w w' := by
  obtain ⟨C, hC⟩ : ∃ C, C = ((fillK key).map bv).toArray := ⟨_, rfl⟩
  have hC64 : C.size = 64 := by rw [hC]; simp [fillK_len]
  have H3 := Lib.hid (show C.all (·.oneCell') = true by rw [hC]; exact bvs_one _)
  have H1 := Lib.hid (show (Tryz.prog.info? 97).map (·.size) = some C.size by rw [hC64]; kernel_rfl)
  have H2 := Lib.hid (show Z64.size = C.size by rw [hC64]; rfl)
  obtain ⟨w1, hw1⟩ : ∃ w1, w1 = (w.alloc (.cells Z64 97)).alloc (.cells Z64 97) := ⟨_, rfl⟩
  have hb1 : Below w.heap.size w w1 := by rw [hw1]; exact ((Below.refl _ _).alloc (Nat.le_refl _) _).alloc (by simp) _
  have HB1 := Lib.hid hb1
  have HS1 := Lib.hid (show w1.heap.size = w.heap.size + 2 by rw [hw1]; simp)
  have HR1 := Lib.hid (show w1.heap[w.heap.size]? = some (.cells Z64 97 (0, 0)) by rw [hw1]; exact heap_alloc2_old w _ _)
  have HF1 := Lib.hid (show w1.heap[w.heap.size + 1]? = some (.cells Z64 97 (0, 0)) by rw [hw1]; exact heap_alloc2_new w _ _)
  have HK1 := Lib.hid (hB.below hb1)
  have HG1 := Lib.hid (glob_below hG hb1 (Nat.le_refl _))
  rw [← hC]
  have sl := slice_64
  have sl2 := slice_32
  by_cases hlong : 64 < key.length
  · have hk1 : keyK key = dig key := by unfold keyK; rw [if_pos hlong]
    have HC := Lib.hid (show C = (splice ((zeros 64).map bv) 0 ((dig key).map bv)).toArray by rw [splice_pad _ (by rw [dig_len]; omega), hC]; unfold fillK; rw [hk1])
    obtain ⟨D, hD⟩ : ∃ D, D = ((dig key).map bv).toArray := ⟨_, rfl⟩
    have hD32 : D.size = 32 := by rw [hD]; simp [dig_len]
    have D3 := Lib.hid (show D.all (·.oneCell') = true by rw [hD]; exact bvs_one _)
    have D1 := Lib.hid (show (Tryz.prog.info? 24).map (·.size) = some D.size by rw [hD32]; kernel_rfl)
    have D2 := Lib.hid (show ZId.size = D.size by rw [hD32]; rfl)
    have S1 := Lib.hid (fun (g : Nat) (w : World) (hL : Lst w (some ⟨g, 0, none⟩) [key]) (hG : Glob w) => sum_any (some ⟨g, 0, none⟩) 1 _ w hL hG (by simp; omega) (by simp))
    rw [show [key].flatten = key by simp, ← hD] at S1
    have HD := Lib.hid hD
    clear hb1 hB hG hC hC64 hk1 hD hD32
    go_enter Tryz.func49, Tryz.ntmps49
    go_upto_region 2 with fail
    change Code.wp _ _ _ _ ((w.alloc (.cells Z64 97)).alloc (.cells Z64 97))
    rw [← hw1]
    clear hw1
    go_wp2_with (go_at_call 51; refine stop ?_)
    unfold Stop
    obtain ⟨w2, hw2⟩ : ∃ w2, w2 = w1.alloc (.cells #[.slice A key.length c] 22) := ⟨_, rfl⟩
    have hb2 : Below w1.heap.size w1 w2 := by rw [hw2]; exact (Below.refl _ _).alloc (Nat.le_refl _) _
    have hL : Lst w2 (some ⟨w1.heap.size, 0, none⟩) [key] := fun i xs hi => by
      match i, hi with
      | 0, hi =>
        obtain rfl : key = xs := by simpa using hi
        refine ⟨_, A, c, rfl, ?_, hc, HK1.out.below hb2⟩
        rw [add_row, hw2, cell_of_row _ _ _ _ _ _ (heap_alloc_new w1 _)]; rfl
    rw [← hw2]
    clear hw2
    refine (S1.out _ w2 hL (glob_below HG1.out hb2 (Nat.le_refl _))).mono ?_
    rintro e w3 ⟨rfl, hb3⟩
    have hb13 : Below w1.heap.size w1 w3 := hb2.trans (hb3.mono hb2.size)
    have hb34 : Below w3.heap.size w3 (w3.alloc (.cells ZId 24)) := (Below.refl _ _).alloc (Nat.le_refl _) _
    have HZ4 := Lib.hid (show (w3.alloc (.cells ZId 24)).heap[w3.heap.size]? = some (.cells ZId 24 (0, 0)) from heap_alloc_new _ _)
    have hb14 : Below w1.heap.size w1 (w3.alloc (.cells ZId 24)) := hb13.trans (hb34.mono hb13.size)
    have hb15 := Lib.hid (below_setRow hb14 hb13.size D)
    have HD5 := Lib.hid (show ((w3.alloc (.cells ZId 24)).setRow w3.heap.size D).heap[w3.heap.size]? = some (.cells ((dig key).map bv).toArray 24 (0, 0)) by rw [← HD.out]; exact setRow_heap _ w3.heap.size ZId D _ _ HZ4.out)
    have hs3 : w.heap.size + 2 ≤ w3.heap.size := by have := hb13.size; rw [HS1.out] at this; exact this
    clear hL hb2 hb3 hb34 hb13 hb14
    go_wp2_with (refine wpList_store_row rfl _ _ _ rfl w3.heap.size D rfl rfl _ ZId HZ4.out D1.out D2.out D3.out ?_; refine stop ?_)
    unfold Stop
    obtain ⟨w5, hw5⟩ : ∃ w5, w5 = (w3.alloc (.cells ZId 24)).setRow w3.heap.size D := ⟨_, rfl⟩
    change wpList _ _ _ _ _ ((w3.alloc (.cells ZId 24)).setRow w3.heap.size D)
    rw [← hw5] at hb15 HD5 ⊢
    clear hw5 HZ4
    have F5 := Lib.hid (heap_below hb15.out HF1.out)
    have R5 := Lib.hid (heap_below hb15.out HR1.out)
    have B5 := Lib.hid (HB1.out.trans (hb15.out.mono HB1.out.size))
    go_upto_region 5 with fail
    go_step
    iterate 6 go_step
    refine wpList_copy_splice (o := ⟨some 14, _, _, _, _, _⟩) rfl _ _ _ _ rfl 5 Tryz.underlying22 (by kernel_rfl) _ _ 64 64 32 32 rfl rfl (w.heap.size + 1) 0 ((zeros 64).map bv) _ F5.out ((dig key).map bv) (by rw [List.length_map, dig_len]; rfl) (fun hp => ⟨rfl, bts_copy (bts_row HD5.out) hp⟩) (by simp [dig_len, zeros_len]) (bv_one _) (w.heap.size + 1) w5 (Below.refl _ _) (Nat.le_refl _) ?_
    intro w6 HF6 hb6
    rw [← HC.out] at HF6
    have HR6 := Lib.hid ((hb6.block w.heap.size (by omega)).trans R5.out)
    have HB6 := Lib.hid (B5.out.trans (hb6.mono (by omega)))
    clear hb6
    go_wp2_with (first
      | (refine wpList_load_row rfl _ _ rfl (w.heap.size + 1) rfl _ C (0, 0) _ HF6.out Tryz.underlying97 rfl H1.out ?_)
      | (refine wpList_store_row rfl _ _ _ rfl w.heap.size C rfl rfl _ Z64 HR6.out H1.out H2.out H3.out ?_))
    have hA2 := setRow_heap w6 w.heap.size Z64 C 97 (0, 0) HR6.out
    refine bodyPost_ret (v := .agg C) ?_ rfl ⟨rfl, below_setRow HB6.out (Nat.le_refl _) C⟩
    exact results_cell_row Tryz.results49 _ _ w.heap.size _ C (0, 0) _ rfl hA2 Tryz.underlying97 rfl H1.out
  · have hk1 : keyK key = key := by unfold keyK; rw [if_neg hlong]
    have HC := Lib.hid (show C = (splice ((zeros 64).map bv) 0 (key.map bv)).toArray by rw [splice_pad _ (by omega), hC]; unfold fillK; rw [hk1])
    have hmin : (key.map bv).length = Nat.min key.length 64 := by rw [List.length_map]; exact (Nat.min_eq_left (by omega)).symm
    have HM := Lib.hid hmin
    clear hb1 hB hG hC hC64 hk1 hmin
    go_enter Tryz.func49, Tryz.ntmps49
    go_upto_region 2 with fail
    change Code.wp _ _ _ _ ((w.alloc (.cells Z64 97)).alloc (.cells Z64 97))
    rw [← hw1]
    clear hw1
    go_upto_region 5 with fail
    go_step
    iterate 6 go_step
    refine wpList_copy_splice (o := ⟨some 14, _, _, _, _, _⟩) rfl _ _ _ _ rfl 5 Tryz.underlying22 (by kernel_rfl) _ _ 64 64 key.length c rfl rfl (w.heap.size + 1) 0 ((zeros 64).map bv) _ HF1.out (key.map bv) HM.out (fun hp => ⟨rfl, bts_copy HK1.out hp⟩) (by simp [zeros_len]; omega) (bv_one _) (w.heap.size + 1) w1 (Below.refl _ _) (Nat.le_refl _) ?_
    intro w6 HF6 hb6
    rw [← HC.out] at HF6
    have HR6 := Lib.hid ((hb6.block w.heap.size (by omega)).trans HR1.out)
    have HB6 := Lib.hid (HB1.out.trans (hb6.mono (by omega)))
    clear hb6
    go_wp2_with (first
      | (refine wpList_load_row rfl _ _ rfl (w.heap.size + 1) rfl _ C (0, 0) _ HF6.out Tryz.underlying97 rfl H1.out ?_)
      | (refine wpList_store_row rfl _ _ _ rfl w.heap.size C rfl rfl _ Z64 HR6.out H1.out H2.out H3.out ?_))
    have hA2 := setRow_heap w6 w.heap.size Z64 C 97 (0, 0) HR6.out
    refine bodyPost_ret (v := .agg C) ?_ rfl ⟨rfl, below_setRow HB6.out (Nat.le_refl _) C⟩
    exact results_cell_row Tryz.results49 _ _ w.heap.size _ C (0, 0) _ rfl hA2 Tryz.underlying97 rfl H1.out
end
section
set_option linter.unusedVariables false
open Go.RowKit
set_option maxRecDepth 100000 in
set_option maxHeartbeats 2000000 in
theorem tturned_any (l : List B8) (x : B8) (w : World) (hl : l.length = 64) :
    Calls Tryz.prog 50 #[.agg (l.map bv).toArray, .int .u8 (x.toNat : Int)] w fun e w' => e = .returned (.agg ((turnK x l).map bv).toArray) ∧ Below w.heap.size w w' := by
  obtain ⟨C, hC⟩ : ∃ C, C = ((turnK x l).map bv).toArray := ⟨_, rfl⟩
  have hC64 : C.size = 64 := by rw [hC]; simp [turnK_len, hl]
  have H3 := Lib.hid (show C.all (·.oneCell') = true by rw [hC]; exact bvs_one _)
  have H1 := Lib.hid (show (Tryz.prog.info? 97).map (·.size) = some C.size by rw [hC64]; kernel_rfl)
  have H2 := Lib.hid (show Z64.size = C.size by rw [hC64]; rfl)
  have HC := Lib.hid hC
  rw [← hC]
  obtain ⟨L, hL⟩ : ∃ L, L = (l.map bv).toArray := ⟨_, rfl⟩
  rw [← hL]
  obtain ⟨w1, hw1⟩ : ∃ w1, w1 = (w.alloc (.cells L 97)).alloc (.cells Z64 97) := ⟨_, rfl⟩
  have HB1 := Lib.hid (show Below w.heap.size w w1 by rw [hw1]; exact ((Below.refl _ _).alloc (Nat.le_refl _) _).alloc (by simp) _)
  have HS1 := Lib.hid (show w1.heap.size = w.heap.size + 2 by rw [hw1]; simp)
  have HX1 := Lib.hid (show w1.heap[w.heap.size]? = some (.cells ((mixT x l 0).map bv).toArray 97 (0, 0)) by rw [hw1, mixT_zero, ← hL]; exact heap_alloc2_old w _ _)
  have HR1 := Lib.hid (show w1.heap[w.heap.size + 1]? = some (.cells Z64 97 (0, 0)) by rw [hw1]; exact heap_alloc2_new w _ _)
  have HL := Lib.hid hl
  clear hC hC64 hL hl
  go_enter Tryz.func50, Tryz.ntmps50
  go_upto_region 2 with fail
  change Code.wp _ _ _ _ ((w.alloc (.cells L 97)).alloc (.cells Z64 97))
  rw [← hw1]
  clear hw1
  go_wp2
  go_loopw [5, 6] (fun _ i wr => ∃ k : Nat, k ≤ 64 ∧ i = .int .i64 k ∧ wr.heap[w.heap.size]? = some (.cells ((mixT x l k).map bv).toArray 97 (0, 0)) ∧ w1.grownBy wr (some w.heap.size)) (fun _ i _ => 64 - (intOf i).toNat)
  case atStart => exact ⟨0, Nat.zero_le _, rfl, HX1.out, grown_refl _ _⟩
  case round =>
    obtain ⟨k, hk, rfl, hg, hb⟩ := hrel
    have HG := Lib.hid hg
    have HB := Lib.hid hb
    clear hb
    by_cases hlt : k < 64
    · have hlt2 : k < l.length := by rw [HL.out]; exact hlt
      have hcell : wr.cell? ⟨w.heap.size, k, none⟩ = some (bv l[k]) := by
        rw [cell_of_row wr _ _ _ _ _ hg, List.getElem?_toArray, List.getElem?_map, mixT_at x l k hlt2]; rfl
      have hfr : wr.frozen? ⟨w.heap.size, k, none⟩ = false := frozen_of_row wr _ _ _ _ hg
      have HS := Lib.hid (show ∀ v, v = bv (l[k] ^^^ x) → (wr.setCell ⟨w.heap.size, k, none⟩ v).heap[w.heap.size]? = some (.cells ((mixT x l (k + 1)).map bv).toArray 97 (0, 0)) from fun v hv => by
        rw [hv, heap_setCell_same _ _ k _ _ _ HG.out, mixT_set x l k hlt2])
      clear hg
      generalize l[k] = y at *
      unfold bv at hcell
      go_wp2
      go_roundw
      case rel => exact ⟨k + 1, by omega, by go_num, HS.out _ (by rw [(bbits y x).2.2]; rfl), grown_set HB.out _ _⟩
      case measure => simp [intOf]; omega
    · rw [mixT_end x l k (by rw [HL.out]; omega), ← HC.out] at hg
      have HG2 := Lib.hid hg
      have HR2 := Lib.hid ((HB.out.block (w.heap.size + 1) (by rw [HS1.out]; omega) (by intro e; injection e; omega)).trans HR1.out)
      have HB2 := Lib.hid (HB1.out.grown HB.out HB1.out.size (fun k hk => by injection hk with hk; omega))
      clear hg
      go_wp2_with (first
        | (refine wpList_load_row rfl _ _ rfl w.heap.size rfl _ C (0, 0) _ HG2.out Tryz.underlying97 rfl H1.out ?_)
        | (refine wpList_store_row rfl _ _ _ rfl (w.heap.size + 1) C rfl rfl _ Z64 HR2.out H1.out H2.out H3.out ?_))
      have hA2 := setRow_heap wr (w.heap.size + 1) Z64 C 97 (0, 0) HR2.out
      refine bodyPost_ret (v := .agg C) ?_ rfl ⟨rfl, below_setRow HB2.out (by omega) C⟩
      exact results_cell_row Tryz.results50 _ _ (w.heap.size + 1) _ C (0, 0) _ rfl hA2 Tryz.underlying97 rfl H1.out
end
section
set_option linter.unusedVariables false
open Go.RowKit
set_option maxRecDepth 100000 in
set_option maxHeartbeats 4000000 in
theorem tagOf_any (A A' : Option Addr) (c c' : Nat) (key b : List B8) (w : World) (hK : Bts w A key) (hc : key.length ≤ c) (hB : Bts w A' b) (hc' : b.length ≤ c') (hG : Glob w) (hk : key.length ≤ 1000000) (hb : b.length ≤ 1000000) :
    Calls Tryz.prog 16 #[.slice A key.length c, .slice A' b.length c'] w fun e w' => e = .returned (.agg ((tagD key b).map bv).toArray) ∧ Below w.heap.size w w' := by
  obtain ⟨C, hC⟩ : ∃ C, C = ((tagD key b).map bv).toArray := ⟨_, rfl⟩
  have hC32 : C.size = 32 := by rw [hC]; simp [tagD_len]
  have H3 := Lib.hid (show C.all (·.oneCell') = true by rw [hC]; exact bvs_one _)
  have H1 := Lib.hid (show (Tryz.prog.info? 24).map (·.size) = some C.size by rw [hC32]; kernel_rfl)
  have H2 := Lib.hid (show ZId.size = C.size by rw [hC32]; rfl)
  obtain ⟨FL, hFL⟩ : ∃ FL, FL = (fillK key).map bv := ⟨_, rfl⟩
  have hFL64 : FL.length = 64 := by rw [hFL]; simp [fillK_len]
  obtain ⟨IL, hIL⟩ : ∃ IL, IL = turnK 54 (fillK key) := ⟨_, rfl⟩
  have hIL64 : IL.length = 64 := by rw [hIL, turnK_len, fillK_len]
  obtain ⟨OL, hOL⟩ : ∃ OL, OL = turnK 92 (fillK key) := ⟨_, rfl⟩
  have hOL64 : OL.length = 64 := by rw [hOL, turnK_len, fillK_len]
  obtain ⟨IA, hIA⟩ : ∃ IA, IA = (IL.map bv).toArray := ⟨_, rfl⟩
  obtain ⟨OA, hOA⟩ : ∃ OA, OA = (OL.map bv).toArray := ⟨_, rfl⟩
  have F1 := Lib.hid (show (Tryz.prog.info? 97).map (·.size) = some FL.toArray.size by rw [List.size_toArray, hFL64]; kernel_rfl)
  have F2 := Lib.hid (show Z64.size = FL.toArray.size by simp [zeros_len, hFL64])
  have F3 := Lib.hid (show FL.toArray.all (·.oneCell') = true by rw [hFL]; exact bvs_one _)
  have I1 := Lib.hid (show (Tryz.prog.info? 97).map (·.size) = some IA.size by rw [hIA, List.size_toArray, List.length_map, hIL64]; kernel_rfl)
  have I2 := Lib.hid (show Z64.size = IA.size by simp [hIA, zeros_len, hIL64])
  have I3 := Lib.hid (show IA.all (·.oneCell') = true by rw [hIA]; exact bvs_one _)
  have O1 := Lib.hid (show (Tryz.prog.info? 97).map (·.size) = some OA.size by rw [hOA, List.size_toArray, List.length_map, hOL64]; kernel_rfl)
  have O2 := Lib.hid (show Z64.size = OA.size by simp [hOA, zeros_len, hOL64])
  have O3 := Lib.hid (show OA.all (·.oneCell') = true by rw [hOA]; exact bvs_one _)
  have FLS := Lib.hid hFL64
  have CF := Lib.hid (fun w hB hG => filled_any A c key w hB hc hG hk)
  have T1 := Lib.hid (fun w => tturned_any (fillK key) 54 w (fillK_len _))
  have T2 := Lib.hid (fun w => tturned_any (fillK key) 92 w (fillK_len _))
  rw [show ((((54 : B8).toNat : Nat)) : Int) = 54 from rfl, ← hFL, ← hIL, ← hIA] at T1
  rw [show ((((92 : B8).toNat : Nat)) : Int) = 92 from rfl, ← hFL, ← hOL, ← hOA] at T2
  rw [← hFL] at CF
  obtain ⟨DL, hDL⟩ : ∃ DL, DL = dig (IL ++ b) := ⟨_, rfl⟩
  have hDL32 : DL.length = 32 := by rw [hDL]; exact dig_len _
  obtain ⟨DA, hDA⟩ : ∃ DA, DA = (DL.map bv).toArray := ⟨_, rfl⟩
  have D1 := Lib.hid (show (Tryz.prog.info? 24).map (·.size) = some DA.size by rw [hDA, List.size_toArray, List.length_map, hDL32]; kernel_rfl)
  have D2 := Lib.hid (show ZId.size = DA.size by simp [hDA, zeros_len, hDL32])
  have D3 := Lib.hid (show DA.all (·.oneCell') = true by rw [hDA]; exact bvs_one _)
  have S1 := Lib.hid (fun (g : Nat) (w : World) (hL : Lst w (some ⟨g, 0, none⟩) [IL, b]) (hG : Glob w) => sum_any (some ⟨g, 0, none⟩) 2 _ w hL hG (by simp; omega) (by simp))
  have S2 := Lib.hid (fun (g : Nat) (w : World) (hL : Lst w (some ⟨g, 0, none⟩) [OL, DL]) (hG : Glob w) => sum_any (some ⟨g, 0, none⟩) 2 _ w hL hG (by simp; omega) (by simp))
  rw [show [IL, b].flatten = IL ++ b by simp, ← hDL, ← hDA] at S1
  rw [show [OL, DL].flatten = OL ++ DL by simp, show dig (OL ++ DL) = tagD key b by rw [hOL, hDL, hIL]; rfl, ← hC] at S2
  rw [← hC]
  have HIA := Lib.hid hIA
  have HOA := Lib.hid hOA
  have HDA := Lib.hid hDA
  have HIL := Lib.hid hIL64
  have HOL := Lib.hid hOL64
  have HDL := Lib.hid hDL32
  obtain ⟨w1, hw1⟩ : ∃ w1, w1 = w.alloc (.cells ZId 24) := ⟨_, rfl⟩
  have hb1 : Below w.heap.size w w1 := by rw [hw1]; exact (Below.refl _ _).alloc (Nat.le_refl _) _
  have HS1 := Lib.hid (show w1.heap.size = w.heap.size + 1 by rw [hw1]; simp)
  have HB1 := Lib.hid hb1
  have HZ1 := Lib.hid (show w1.heap[w.heap.size]? = some (.cells ZId 24 (0, 0)) by rw [hw1]; exact heap_alloc_new _ _)
  have HK1 := Lib.hid (hK.below hb1)
  have HX1 := Lib.hid (hB.below hb1)
  have HG1 := Lib.hid (glob_below hG hb1 (Nat.le_refl _))
  have sl := slice_64
  have sl2 := slice_32
  clear hC hC32 hFL hFL64 hIL hIL64 hOL hOL64 hIA hOA hDL hDL32 hDA hb1 hK hB hG
  go_enter Tryz.func16, Tryz.ntmps16
  go_upto_region 1 with fail
  change Code.wp _ _ _ _ (w.alloc (.cells ZId 24))
  rw [← hw1]
  clear hw1
  go_wp2_with (go_at_call 49; refine stop ?_)
  unfold Stop
  refine (CF.out w1 HK1.out HG1.out).mono ?_
  rintro e wa ⟨rfl, hba⟩
  have hbn : Below wa.heap.size wa (wa.alloc (.cells Z64 97)) := (Below.refl _ _).alloc (Nat.le_refl _) _
  have HZa := Lib.hid (show (wa.alloc (.cells Z64 97)).heap[wa.heap.size]? = some (.cells Z64 97 (0, 0)) from heap_alloc_new _ _)
  have hb2 : Below w1.heap.size w1 ((wa.alloc (.cells Z64 97)).setRow wa.heap.size FL.toArray) := below_setRow (hba.trans (hbn.mono hba.size)) hba.size FL.toArray
  have HF2 := Lib.hid (show ((wa.alloc (.cells Z64 97)).setRow wa.heap.size FL.toArray).heap[wa.heap.size]? = some (.cells FL.toArray 97 (0, 0)) from setRow_heap _ wa.heap.size Z64 FL.toArray _ _ HZa.out)
  have HB2' := Lib.hid hb2
  have hsa : w.heap.size + 1 ≤ wa.heap.size := by have := hba.size; rw [HS1.out] at this; exact this
  clear hba hbn hb2
  go_wp2_with (refine wpList_store_row rfl _ _ _ rfl wa.heap.size FL.toArray rfl rfl _ Z64 HZa.out F1.out F2.out F3.out ?_; refine stop ?_)
  unfold Stop
  obtain ⟨w2, hw2⟩ : ∃ w2, w2 = (wa.alloc (.cells Z64 97)).setRow wa.heap.size FL.toArray := ⟨_, rfl⟩
  change wpList _ _ _ _ _ ((wa.alloc (.cells Z64 97)).setRow wa.heap.size FL.toArray)
  rw [← hw2] at HB2' HF2 ⊢
  have hsz2 : wa.heap.size + 1 ≤ w2.heap.size := by rw [hw2]; simp [World.setRow]
  clear hw2 HZa
  have HB2 := Lib.hid (HB1.out.trans (HB2'.out.mono HB1.out.size))
  have HX2 := Lib.hid (HX1.out.below HB2'.out)
  have HG2 := Lib.hid (glob_below HG1.out HB2'.out (Nat.le_refl _))
  have HZ2 := Lib.hid (heap_below HB2'.out HZ1.out)
  have HF2d := Lib.hid (show w2.drew.heap[wa.heap.size]? = some (.cells FL.toArray 97 (0, 0)) from HF2.out)
  clear HB2' HX1 HG1 HZ1 HK1
  go_wp2_with fail
  refine wp_region_rel_tail2 6 23 4 5 _ _ (by decide) (by rfl) (by rfl) (makes_alloc rfl rfl (fun w => ⟨w.alloc (.cells Z64 97), by kernel_rfl⟩)) (makes_alloc rfl rfl (fun w => ⟨w.alloc (.cells Z64 97), by kernel_rfl⟩)) (by kernel_rfl) (by kernel_rfl) Stp [.one ?_, .one ?_, .one ?_, .one ?_, .rel (PtrZ w2.heap.size Z64 97), .rel (PtrZ w2.heap.size Z64 97)] _ _ (by rfl) (by rfl) PtrZ.pt PtrZ.pt (by kernel_rfl) rfl (by kernel_rfl) Stp.refl Stp.trans ⟨PtrZ.stable, PtrZ.stable, trivial⟩ ?main
  case main =>
  simp only [List.take_succ_cons, List.take_zero, List.drop_succ_cons, List.drop_zero]
  refine wpR_one (A' := ?_) Stp.refl (by rfl) _ rfl 23 (by rfl) (by rfl) ?_ ?_ ?_
  rotate_left 1
  · simp only [Act.put, List.setIfInBounds_toArray, List.set_cons_zero, List.set_cons_succ]; rfl
  · intro w1 hs hf K hK
    refine cls_load 97 (.tmp 5) rfl (wa.heap.size) (0) rfl (FL) _ (fun w2 h2 => range_row (heap_below h2 (heap_below hs HF2d.out))) Tryz.underlying97 rfl (by rw [FLS.out]; kernel_rfl) ?_
    refine hK _ ?_
    simp only [Act.put, List.setIfInBounds_toArray, List.set_cons_zero, List.set_cons_succ]
    rfl
  refine wpR_one (A' := ?_) Stp.refl (by rfl) _ rfl 23 (by rfl) (by rfl) ?_ ?_ ?_
  rotate_left 1
  · simp only [Act.put, List.setIfInBounds_toArray, List.set_cons_zero, List.set_cons_succ]; rfl
  · intro w1 hs hf K hK
    go_big_quiet_op
    apply Exists.intro
    refine ⟨fun w4 h2 => ?_, ?_⟩
    · refine (T1.out w4).mono ?_
      rintro e w3 ⟨rfl, h3⟩
      exact ⟨rfl, Stp.trans _ _ _ h2 h3⟩
    · go_big_quiet_on
      rfl
  refine wpR_one (A' := ?_) Stp.refl (by rfl) _ rfl 23 (by rfl) (by rfl) ?_ ?_ ?_
  rotate_left 1
  · simp only [Act.put, List.setIfInBounds_toArray, List.set_cons_zero, List.set_cons_succ]; rfl
  · intro w1 hs hf K hK
    refine cls_load 97 (.tmp 5) rfl (wa.heap.size) (0) rfl (FL) _ (fun w2 h2 => range_row (heap_below h2 (heap_below hs HF2d.out))) Tryz.underlying97 rfl (by rw [FLS.out]; kernel_rfl) ?_
    refine hK _ ?_
    simp only [Act.put, List.setIfInBounds_toArray, List.set_cons_zero, List.set_cons_succ]
    rfl
  refine wpR_one (A' := ?_) Stp.refl (by rfl) _ rfl 23 (by rfl) (by rfl) ?_ ?_ ?_
  rotate_left 1
  · simp only [Act.put, List.setIfInBounds_toArray, List.set_cons_zero, List.set_cons_succ]; rfl
  · intro w1 hs hf K hK
    go_big_quiet_op
    apply Exists.intro
    refine ⟨fun w4 h2 => ?_, ?_⟩
    · refine (T2.out w4).mono ?_
      rintro e w3 ⟨rfl, h3⟩
      exact ⟨rfl, Stp.trans _ _ _ h2 h3⟩
    · go_big_quiet_on
      rfl
  refine wpR_rel (A' := ?_) (by rfl) ?_ ?_ ?_
  · intro w1 hs hf
    exact does_ptr Z64 97 _ rfl (Below.size (w := w2.drew) hs) (fun w => by kernel_rfl)
  rotate_left 1
  · intro x
    simp only [Act.put, List.setIfInBounds_toArray, List.set_cons_zero, List.set_cons_succ]; rfl
  intro x4
  refine wpR_rel (A' := ?_) (by rfl) ?_ ?_ ?_
  · intro w1 hs hf
    exact does_ptr Z64 97 _ rfl (Below.size (w := w2.drew) hs) (fun w => by kernel_rfl)
  rotate_left 1
  · intro x
    simp only [Act.put, List.setIfInBounds_toArray, List.set_cons_zero, List.set_cons_succ]; rfl
  intro x5
  intro w9 hs hf hne0
  have hne : x4 ≠ x5 := hne0
  clear hne0
  obtain ⟨⟨g5, hB5, h5, hr5⟩, ⟨g4, hB4, h4, hr4⟩, -⟩ := hf
  change x5 = _ at h5
  change x4 = _ at h4
  subst h4 h5
  have h45 : g5 ≠ g4 := fun e => hne (by rw [e])
  have hs2 : Below w2.heap.size w2 w9 := (Below.refl _ _).drew.trans hs
  have HR4 := Lib.hid hr4
  have HR5 := Lib.hid (show (w9.setRow g4 IA).heap[g5]? = some (.cells Z64 97 (0, 0)) from (setRow_other w9 g4 g5 IA h45).trans hr5)
  obtain ⟨w3, hw3⟩ : ∃ w3, w3 = (w9.setRow g4 IA).setRow g5 OA := ⟨_, rfl⟩
  have HB3' := Lib.hid (show Below w2.heap.size w2 w3 by rw [hw3]; exact below_setRow (below_setRow hs2 hB4 IA) hB5 OA)
  have H34 := Lib.hid (show w3.heap[g4]? = some (.cells (IL.map bv).toArray 97 (0, 0)) by rw [hw3, ← HIA.out]; exact (setRow_other _ g5 g4 OA (Ne.symm h45)).trans (setRow_heap w9 g4 Z64 IA _ _ hr4))
  have H35 := Lib.hid (show w3.heap[g5]? = some (.cells (OL.map bv).toArray 97 (0, 0)) by rw [hw3, ← HOA.out]; exact setRow_heap _ g5 Z64 OA _ _ HR5.out)
  clear hs hne h45 hs2 hr4 hr5
  go_wp2_with (first
    | (refine wpList_store_row rfl _ _ _ rfl g4 IA rfl rfl _ Z64 HR4.out I1.out I2.out I3.out ?_)
    | (refine wpList_store_row rfl _ _ _ rfl g5 OA rfl rfl _ Z64 HR5.out O1.out O2.out O3.out ?_; refine stop ?_))
  unfold Stop
  rw [← hw3]
  clear hw3 HR4 HR5
  have HB3 := Lib.hid (HB2.out.trans (HB3'.out.mono HB2.out.size))
  have HX3 := Lib.hid (HX2.out.below HB3'.out)
  have HG3 := Lib.hid (glob_below HG2.out HB3'.out (Nat.le_refl _))
  have HZ3 := Lib.hid (heap_below HB3'.out HZ2.out)
  clear HB3' HX2 HG2 HZ2 HB2 HF2 HF2d
  go_wp2_with (go_at_call 51; refine stop ?_)
  unfold Stop
  obtain ⟨w4, hw4⟩ : ∃ w4, w4 = w3.alloc (.cells #[.slice (some ⟨g4, 0, none⟩) 64 64, .slice A' b.length c'] 22) := ⟨_, rfl⟩
  have hb4 : Below w3.heap.size w3 w4 := by rw [hw4]; exact (Below.refl _ _).alloc (Nat.le_refl _) _
  have hL : Lst w4 (some ⟨w3.heap.size, 0, none⟩) [IL, b] := lst_two HIL.out.symm rfl (by rw [hw4]; exact heap_alloc_new w3 _) (by rw [HIL.out]; exact Nat.le_refl _) hc' ((bts_row H34.out).below hb4) (HX3.out.below hb4)
  rw [← hw4]
  clear hw4
  refine (S1.out _ w4 hL (glob_below HG3.out hb4 (Nat.le_refl _))).mono ?_
  rintro e w5 ⟨rfl, hb5⟩
  have hb35 : Below w3.heap.size w3 w5 := hb4.trans (hb5.mono hb4.size)
  have hb56 : Below w5.heap.size w5 (w5.alloc (.cells ZId 24)) := (Below.refl _ _).alloc (Nat.le_refl _) _
  have HZ6 := Lib.hid (show (w5.alloc (.cells ZId 24)).heap[w5.heap.size]? = some (.cells ZId 24 (0, 0)) from heap_alloc_new _ _)
  have HB6' := Lib.hid (below_setRow (hb35.trans (hb56.mono hb35.size)) hb35.size DA)
  have HD6 := Lib.hid (show ((w5.alloc (.cells ZId 24)).setRow w5.heap.size DA).heap[w5.heap.size]? = some (.cells (DL.map bv).toArray 24 (0, 0)) by rw [← HDA.out]; exact setRow_heap _ w5.heap.size ZId DA _ _ HZ6.out)
  clear hL hb4 hb5 hb35 hb56
  go_wp2_with (refine wpList_store_row rfl _ _ _ rfl w5.heap.size DA rfl rfl _ ZId HZ6.out D1.out D2.out D3.out ?_; refine stop ?_)
  unfold Stop
  obtain ⟨w6, hw6⟩ : ∃ w6, w6 = (w5.alloc (.cells ZId 24)).setRow w5.heap.size DA := ⟨_, rfl⟩
  change wpList _ _ _ _ _ ((w5.alloc (.cells ZId 24)).setRow w5.heap.size DA)
  rw [← hw6] at HB6' HD6 ⊢
  clear hw6 HZ6
  have HB6 := Lib.hid (HB3.out.trans (HB6'.out.mono HB3.out.size))
  have HG6 := Lib.hid (show Glob w6.drew from glob_below (w' := w6) HG3.out HB6'.out (Nat.le_refl _))
  have HZ6 := Lib.hid (heap_below HB6'.out HZ3.out)
  have HO6 := Lib.hid (show Bts w6.drew (some ⟨g5, 0, none⟩) OL from bts_row (heap_below HB6'.out H35.out))
  have HD6d := Lib.hid (show Bts w6.drew (some ⟨w5.heap.size, 0, none⟩) DL from bts_row HD6.out)
  have L2 := Lib.hid (fun (v : Value) (w : World) (h : MadeL [(some ⟨g5, 0, none⟩, 64, 64), (some ⟨w5.heap.size, 0, none⟩, 32, 32)] v w) (hO : Bts w (some ⟨g5, 0, none⟩) OL) (hD : Bts w (some ⟨w5.heap.size, 0, none⟩) DL) => h.lst [OL, DL] (fun i xs hi => by
    match i, hi with
    | 0, hi => obtain rfl : OL = xs := by simpa using hi
               exact ⟨_, 64, by rw [HOL.out]; rfl, by rw [HOL.out]; omega, hO⟩
    | 1, hi => obtain rfl : DL = xs := by simpa using hi
               exact ⟨_, 32, by rw [HDL.out]; rfl, by rw [HDL.out]; omega, hD⟩))
  clear HB3 HX3 HG3 HZ3 HB6' HD6
  go_wp2_with fail
  refine wp_region_rel_tail 4 23 (by kernel_rfl) (by kernel_rfl) Stp [.one ?_, .one ?_, .rel (MadeL [(some ⟨g5, 0, none⟩, 64, 64), (some ⟨w5.heap.size, 0, none⟩, 32, 32)]), .one ?_] (by kernel_rfl) rfl (by kernel_rfl) Stp.refl Stp.trans ⟨fun v w w' h1 h2 => MadeL.stable _ v w w' h1 h2, trivial⟩ ?main
  case main =>
  simp only [List.take_succ_cons, List.take_zero, List.drop_succ_cons, List.drop_zero]
  iterate 2
    refine wpR_one (A' := ?_) Stp.refl (by rfl) _ rfl 23 (by rfl) (by rfl) ?_ ?_ ?_
    rotate_left 1
    · simp only [Act.put, List.setIfInBounds_toArray, List.set_cons_zero, List.set_cons_succ]; rfl
    · intro w1 hs hf K hK
      go_big_quiet_op
      first
        | go_big_quiet_on
        | (refine ⟨_, fun _ _ => rfl, ?_⟩; go_big_quiet_on)
      rfl
  refine wpR_rel (A' := ?_) (by rfl) ?_ ?_ ?_
  · intro w1 hs hf
    exact does_made _ 22 _ rfl (fun w => by kernel_rfl)
  rotate_left 1
  · intro x
    simp only [Act.put, List.setIfInBounds_toArray, List.set_cons_zero, List.set_cons_succ]; rfl
  intro x6
  refine wpR_one (A' := ?_) Stp.refl (by rfl) _ rfl 23 (by rfl) (by rfl) ?_ ?_ ?_
  rotate_left 1
  · simp only [Act.put, List.setIfInBounds_toArray, List.set_cons_zero, List.set_cons_succ]; rfl
  · intro w1 hs hf K hK
    obtain ⟨gl, hgl, hl⟩ := L2.out _ _ (AllF_at hf 0 rfl (by kernel_rfl)) (bts_stp HO6.out hs) (bts_stp HD6d.out hs)
    change x6 = _ at hgl
    subst hgl
    go_big_quiet_op
    apply Exists.intro
    refine ⟨fun w4 h2 => ?_, ?_⟩
    · refine (S2.out gl w4 (lst_stp hl h2) (glob_stp (glob_stp HG6.out hs) h2)).mono ?_
      rintro e w3 ⟨rfl, h3⟩
      exact ⟨rfl, Stp.trans _ _ _ h2 h3⟩
    · go_big_quiet_on
      rfl
  intro w9 hs hf
  have HB9 := Lib.hid (HB6.out.trans (((Below.refl _ _).drew.trans hs).mono HB6.out.size))
  have HA := Lib.hid (heap_below (w := w6.drew) hs HZ6.out)
  clear hs hf
  go_wp2_with (refine wpList_store_row rfl _ _ _ rfl w.heap.size C rfl rfl _ ZId HA.out H1.out H2.out H3.out ?_)
  have hA2 := setRow_heap w9 w.heap.size ZId C 24 (0, 0) HA.out
  refine bodyPost_ret (v := .agg C) ?_ rfl ⟨rfl, below_setRow HB9.out (Nat.le_refl _) C⟩
  exact results_cell_row Tryz.results16 _ _ w.heap.size _ C (0, 0) _ rfl hA2 Tryz.underlying24 rfl H1.out
end
end Go.Proofs.YthoaaieiiokcmaaGreatDoor
