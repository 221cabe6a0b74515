/- The contract of the code's 'Under'. -/
import Derived.Test.YtoclfohgchlpnaaDoorShaW6
namespace Go.Proofs.YtoclfohgchlpnaaDoor
open Go.RowKit

def longB (xs : List B8) : List B8 := wb (BitVec.ofNat 32 xs.length) ++ xs
def underB (m : B8) (ls : List (List B8)) : List B8 := m :: (ls.map longB).flatten
theorem longs_take (ls : List (List B8)) (k : Nat) (h : k < ls.length) : ((ls.take (k + 1)).map longB).flatten = ((ls.take k).map longB).flatten ++ (wb (BitVec.ofNat 32 ls[k].length) ++ ls[k]) := by
  rw [List.take_succ_eq_append_getElem h, List.map_append, List.flatten_append]; simp [longB]
set_option maxRecDepth 100000 in
set_option maxHeartbeats 2000000 in
theorem under_any (mk : B8) (A : Option Addr) (c : Nat) (ls : List (List B8)) (w : World) (hL : Lst w A ls) (hG : Glob w) (hlen : (underB mk ls).length ≤ 1099511627000) (hl : ls.length ≤ 1099511627000) :
    Calls Tryd.prog 22 #[.int .u8 (mk.toNat : Int), .slice A ls.length c] w fun e w' => e = .returned (.agg ((dig (underB mk ls)).map bv).toArray) ∧ Below w.heap.size w w' := by
  have c0 : w.cell? ⟨0, 0, none⟩ = some (.int .u32 (H8.a.toNat : Int)) := hG.2.2 0 (by omega)
  have c1 : w.cell? ⟨0, 1, none⟩ = some (.int .u32 (H8.b.toNat : Int)) := hG.2.2 1 (by omega)
  have c2 : w.cell? ⟨0, 2, none⟩ = some (.int .u32 (H8.c.toNat : Int)) := hG.2.2 2 (by omega)
  have c3 : w.cell? ⟨0, 3, none⟩ = some (.int .u32 (H8.d.toNat : Int)) := hG.2.2 3 (by omega)
  have c4 : w.cell? ⟨0, 4, none⟩ = some (.int .u32 (H8.e.toNat : Int)) := hG.2.2 4 (by omega)
  have c5 : w.cell? ⟨0, 5, none⟩ = some (.int .u32 (H8.f.toNat : Int)) := hG.2.2 5 (by omega)
  have c6 : w.cell? ⟨0, 6, none⟩ = some (.int .u32 (H8.g.toNat : Int)) := hG.2.2 6 (by omega)
  have c7 : w.cell? ⟨0, 7, none⟩ = some (.int .u32 (H8.h.toNat : Int)) := hG.2.2 7 (by omega)
  have h2 := hG.1
  have HL := Lib.hid hL
  have HGl := Lib.hid hG
  clear hL hG
  have h0 : 0 < w.heap.size := by omega
  go_enter Tryd.func22, Tryd.ntmps22
  have HB := Lib.hid (built_dig (H8.a.toNat : Int) (H8.b.toNat : Int) (H8.c.toNat : Int) (H8.d.toNat : Int) (H8.e.toNat : Int) (H8.f.toNat : Int) (H8.g.toNat : Int) (H8.h.toNat : Int))
  have H1 := Lib.hid (show (Tryd.prog.info? 72).map (·.size) = some (dcells H8 (zeros 64) 0 0).size by rw [dcells_size _ _ _ _ rfl]; kernel_rfl)
  have H3 := Lib.hid (show 74 = (dcells H8 (zeros 64) 0 0).size by rw [dcells_size _ _ _ _ rfl])
  have H4 := Lib.hid (dcells_one H8 (zeros 64) 0 0)
  have hzd := zero_dig
  go_wp2_with (first
    | (refine wpList_build_eq rfl 72 #[(0, .tmp 9)] rfl (dcells H8 (zeros 64) 0 0) HB.out ?_)
    | (refine wpList_store_row rfl _ _ _ rfl (w.heap.size + 1) (dcells H8 (zeros 64) 0 0) rfl rfl 72 _ (heap_alloc2_new w _ _) H1.out H3.out H4.out ?_))
  obtain ⟨w1, hw1⟩ : ∃ w1, w1 = ((w.alloc (.cells ((zeros 32).map bv).toArray 23)).alloc (.cells Z74 72)).setRow (w.heap.size + 1) (dcells H8 (zeros 64) 0 0) := ⟨_, rfl⟩
  have hd1 : DigAt w1 (w.heap.size + 1) [] := ⟨H8, zeros 64, 0, eat_nil, by rw [hw1]; exact setRow_heap _ _ _ _ _ _ (heap_alloc2_new w _ _)⟩
  have hb1 : Below w.heap.size w w1 := by
    rw [hw1]; exact below_setRow (((Below.refl _ _).alloc (Nat.le_refl _) _).alloc (by simp) _) (by omega) _
  have hz1 : ∃ Z, w1.heap[w.heap.size]? = some (.cells Z 23 (0, 0)) ∧ 32 = Z.size := ⟨_, by rw [hw1, setRow_other _ _ _ _ (by omega)]; exact heap_alloc2_old _ _ _, rfl⟩
  have HW := Lib.hid hw1
  have HD1 := Lib.hid hd1
  have HB1 := Lib.hid hb1
  have HZ1 := Lib.hid hz1
  have hsz : w1.heap.size = w.heap.size + 1 + 1 := by rw [hw1]; simp
  change Calls _ _ _ ((((w.alloc (.cells ((zeros 32).map bv).toArray 23)).alloc (.cells Z74 72)).setRow (w.heap.size + 1) (dcells H8 (zeros 64) 0 0)).alloc _) _
  rw [← hw1]
  clear hw1 hd1 hb1 hz1 HB H1 H3 H4 hzd c0 c1 c2 c3 c4 c5 c6 c7
  have T0 := Lib.hid (take_at (w.heap.size + 1) [] (some ⟨w.heap.size + 1 + 1, 0, none⟩) 1 1 [mk] rfl (by omega) (by omega) (by simp))
  refine (T0.out _ ?_ ?_ ?_).mono ?_
  · rw [← hsz]
    exact src_row (heap_alloc_new _ _) (fun j u h => by simpa [bv] using h) (by omega)
  · exact HD1.out.alloc _
  · exact (HGl.out.below HB1.out HGl.out.1).alloc _
  rintro e w2 ⟨rfl, hb2, hd2⟩
  have HD2 := Lib.hid (show DigAt w2 (w.heap.size + 1) (mk :: ((ls.take 0).map longB).flatten) from hd2)
  have HB2 := Lib.hid (below_of_grown (HB1.out.alloc (by omega) _) hb2 (by simp; omega) (by omega))
  have hz2 : ∃ Z, w2.heap[w.heap.size]? = some (.cells Z 23 (0, 0)) ∧ 32 = Z.size := by
    obtain ⟨Z, h1, h2⟩ := HZ1.out
    exact ⟨Z, (hb2.block _ (by simp; omega) (by intro e; injection e; omega)).trans ((Below.heap_alloc _ _ _ (by omega)).trans h1), h2⟩
  have HZ2 := Lib.hid hz2
  clear hz2 hb2 hd2 HZ1 HB1 HD1 HW T0 hsz
  go_wp2_with fail
  go_loopw [7, 8, 16] (fun _ _ i wr => ∃ k : Nat, k ≤ ls.length ∧ i = .int .i64 k ∧ DigAt wr (w.heap.size + 1) (mk :: ((ls.take k).map longB).flatten) ∧ Below w.heap.size w wr ∧ (∃ Z, wr.heap[w.heap.size]? = some (.cells Z 23 (0, 0)) ∧ 32 = Z.size)) (fun _ _ i _ => ls.length - (intOf i).toNat)
  case atStart => exact ⟨0, Nat.zero_le _, rfl, HD2.out, HB2.out, HZ2.out⟩
  case round =>
    clear HD2 HB2 HZ2
    obtain ⟨k, hk, rfl, hd, hb, hz⟩ := hrel
    have hGr := HGl.out.below hb HGl.out.1
    by_cases hlt : k < ls.length
    · obtain ⟨ad, Ai, ci, rfl, hc, hci, hs⟩ := HL.out k ls[k] (List.getElem?_eq_getElem hlt)
      have hcr : wr.cell? (ad.add k) = some (.slice Ai ls[k].length ci) := (hb.cell (World.block_lt_of_cell? w _ hc)).trans hc
      have hfl := longs_take ls k hlt
      have hle : (mk :: ((ls.take k).map longB).flatten).length + 4 + ls[k].length ≤ 1099511627000 := by
        have hq : (ls.map longB).flatten.length = ((ls.take (k + 1)).map longB).flatten.length + ((ls.drop (k + 1)).map longB).flatten.length := by rw [← List.length_append, ← List.flatten_append, ← List.map_append, List.take_append_drop]
        rw [hfl] at hq
        simp only [underB, List.length_cons, List.length_append, wb_len] at hq hlen ⊢
        omega
      obtain ⟨x, hx⟩ : ∃ x, x = BitVec.ofNat 32 ls[k].length := ⟨_, rfl⟩
      obtain ⟨x0, x1, x2, x3, hx4⟩ := wbv_open x
      have e1 := fun w => bytesOf_int ((ls[k].length : Int) % (4294967296 : Int)) x (by rw [hx]; simp) w
      rw [hx4] at e1
      have E1 := Lib.hid e1
      have HX4 := Lib.hid hx4
      have hwr : w.heap.size + 1 < wr.heap.size := hd.lt
      have T := Lib.hid (take_at (w.heap.size + 1) (mk :: ((ls.take k).map longB).flatten) (some ⟨wr.heap.size + 1, 0, none⟩) 4 4 (wb x) rfl (by omega) (by omega) (by omega))
      have HS := Lib.hid hs
      have T2 := Lib.hid (fun (w' : World) (hsr : Src w' (w.heap.size + 1) Ai (ls[k]'hlt)) hD hG => take_any (w.heap.size + 1) (mk :: ((ls.take k).map longB).flatten ++ wb x) Ai ci ls[k] w' hsr hci hD hG (by omega) (by rw [List.length_append, wb_len]; omega))
      have HFL := Lib.hid (show mk :: ((ls.take (k + 1)).map longB).flatten = mk :: ((ls.take k).map longB).flatten ++ wb x ++ ls[k] by rw [hfl, hx]; simp)
      have HD := Lib.hid hd
      have HB := Lib.hid hb
      have HZ := Lib.hid hz
      have HGr := Lib.hid hGr
      have hlk : ls[k].length ≤ 1099511627000 := by omega
      have r2 := slice_four
      clear e1 hx hx4 hfl hle hs hc hd hb hz hGr
      generalize hxx : ls[k] = xs at *
      clear hxx
      go_wp2_with (go_at_call 33; ((with_reducible refine (E1.out _).mono ?_); rintro e w' ⟨rfl, rfl⟩))
      refine (T.out _ ?_ ?_ ?_).mono ?_
      · refine src_row (heap_alloc2_new _ _ _) (fun j u h => ?_) (by omega)
        rw [← HX4.out]; exact wbv_at x j u h
      · exact (HD.out.alloc _).alloc _
      · exact (HGr.out.alloc _).alloc _
      rintro e w3 ⟨rfl, hb3, hd3⟩
      have hb3' := below_of_grown ((HB.out.alloc HB.out.size _).alloc (by have := HB.out.size; simp; omega) _) hb3 (by have := HB.out.size; simp; omega) (by omega)
      have hz3 : ∃ Z, w3.heap[w.heap.size]? = some (.cells Z 23 (0, 0)) ∧ 32 = Z.size := by
        obtain ⟨Z, h1, h2⟩ := HZ.out
        refine ⟨Z, (hb3.block _ (by simp; omega) (by intro e; injection e; omega)).trans ?_, h2⟩
        rw [Below.heap_alloc _ _ _ (by simp; omega), Below.heap_alloc _ _ _ (by omega)]; exact h1
      have HD3 := Lib.hid hd3
      have HB3 := Lib.hid hb3'
      have HZ3 := Lib.hid hz3
      clear hd3 hb3 hb3' hz3 T E1 HX4
      go_wp2_with fail
      refine (T2.out _ ?_ ?_ ?_).mono ?_
      · exact HS.out.src HB3.out rfl (by omega)
      · exact HD3.out
      · exact HGl.out.below HB3.out HGl.out.1
      rintro e w4 ⟨rfl, hb4, hd4⟩
      go_wp2_with fail
      go_roundw
      case rel =>
        refine ⟨k + 1, by omega, by go_num, by rw [HFL.out]; exact hd4, below_of_grown HB3.out hb4 HB3.out.size (by omega), ?_⟩
        obtain ⟨Z, h1, h2⟩ := HZ3.out
        exact ⟨Z, (hb4.block _ (lt_of_block h1) (by intro e; injection e; omega)).trans h1, h2⟩
      case measure => simp [intOf]; omega
    · rw [show ls.take k = ls from List.take_of_length_le (by omega)] at hd
      have T := Lib.hid (end_any (w.heap.size + 1) (underB mk ls) wr hd hGr (by omega) (by omega))
      obtain ⟨C, hC⟩ : ∃ C, C = ((dig (underB mk ls)).map bv).toArray := ⟨_, rfl⟩
      rw [← hC] at T
      have hC32 : C.size = 32 := by rw [hC]; simp [dig_len]
      have H1 := Lib.hid (show (Tryd.prog.info? 23).map (·.size) = some C.size by rw [hC32]; kernel_rfl)
      have H3 := Lib.hid (show C.all (·.oneCell') = true by rw [hC]; exact bvs_one _)
      have HC32 := Lib.hid hC32
      have HCC := Lib.hid hC
      have HB := Lib.hid hb
      have HZ := Lib.hid hz
      clear hC hC32 hd hb hz hGr
      go_wp2_with fail
      refine T.out.mono ?_
      rintro e w2 ⟨rfl, hb2⟩
      obtain ⟨Z, hZ, hZs⟩ := HZ.out
      have HA := Lib.hid ((hb2.block _ (lt_of_block hZ) (by intro e; injection e; omega)).trans hZ)
      have H2 := Lib.hid (show Z.size = C.size by rw [HC32.out, ← hZs])
      clear hZ hZs
      go_wp2_with (refine wpList_store_row rfl _ _ _ rfl w.heap.size C rfl rfl _ Z HA.out H1.out H2.out H3.out ?_)
      have hA2 := setRow_heap w2 w.heap.size Z C 23 (0, 0) HA.out
      refine bodyPost_ret (v := .agg C) ?_ rfl ⟨by rw [HCC.out], below_setRow (below_of_grown HB.out hb2 HB.out.size (by omega)) (Nat.le_refl _) C⟩
      exact results_cell_row Tryd.results22 _ _ w.heap.size _ C (0, 0) _ rfl hA2 Tryd.underlying23 rfl H1.out
end Go.Proofs.YtoclfohgchlpnaaDoor
