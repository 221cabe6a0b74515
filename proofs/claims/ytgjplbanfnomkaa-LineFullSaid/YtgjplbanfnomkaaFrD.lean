/- The document's 'Take': a digest; its contract over all kinds. -/
import Derived.Test.YtgjplbanfnomkaaFrC
import Derived.Deep.RegionLaw
set_option linter.unusedVariables false
namespace Go.Proofs.Ytgjplbanfnomkaa
open Go.RowKit
def StopF (p : Prop) : Prop := p
set_option maxRecDepth 100000 in
theorem stopF {p : Prop} (h : StopF p) : p := h
def idRow (A : Option Addr) (n c : Nat) (l : List B8) (k : Nat) : List Value := [.int .i64 2, .int .u64 0, .slice none 0 0] ++ ((l.take k ++ zeros (32 - k)).map bv ++ [.int .i64 0, .slice A n c])
set_option maxRecDepth 100000 in
theorem idRow_len (A : Option Addr) (n c : Nat) (l : List B8) (k : Nat) (h : k ≤ l.length) (h32 : k ≤ 32) : (idRow A n c l k).length = 37 := by simp [idRow, zeros]; omega
set_option maxRecDepth 100000 in
theorem idRow_set (A : Option Addr) (n c : Nat) (l : List B8) (k : Nat) (h : k < l.length) (h32 : k < 32) : (idRow A n c l k).toArray.setIfInBounds (3 + k) (bv l[k]) = (idRow A n c l (k + 1)).toArray := by
  have e : (l.take k ++ zeros (32 - k)).set k l[k] = l.take (k + 1) ++ zeros (32 - (k + 1)) := by
    rw [List.set_append_right _ _ (by rw [List.length_take]; exact Nat.min_le_left _ _), List.length_take, Nat.min_eq_left (by omega), Nat.sub_self, show 32 - k = (32 - (k + 1)) + 1 by omega]
    unfold zeros
    rw [List.replicate_succ, List.set_cons_zero, List.take_succ_eq_append_getElem h, List.append_assoc]; rfl
  unfold idRow
  rw [← e, List.setIfInBounds_toArray, List.set_append_right _ _ (by simp), List.length_cons, List.length_cons, List.length_cons, List.length_nil, show 3 + k - (0 + 1 + 1 + 1) = k by omega, List.set_append_left _ _ (by simp [zeros]; omega), List.map_set]
set_option maxRecDepth 100000 in
theorem fold_end2 (x : List Value) (h : x.length = 35) (A : Option Addr) (n c : Nat) : (x ++ [Value.int .i64 0, Value.slice none 0 0]).toArray.setIfInBounds 36 (.slice A n c) = (x ++ [Value.int .i64 0, Value.slice A n c]).toArray := by
  simp [h]
set_option maxRecDepth 100000 in
theorem idRow_at (A : Option Addr) (n c : Nat) (l : List B8) (k : Nat) (h : k ≤ l.length) (h32 : k < 32) : ∃ u, (idRow A n c l k).toArray[3 + k]? = some u := ⟨_, Array.getElem?_eq_getElem (by rw [List.size_toArray, idRow_len _ _ _ _ _ h (by omega)]; omega)⟩
set_option maxRecDepth 100000 in
set_option maxHeartbeats 1000000 in
theorem take_id (A : Option Addr) (c : Nat) (l : List B8) (f : Fd) (w : World) (hd : f.d.length = 32) (hk : f.k = 2) (hs : SlN w (fun _ => False) A (l.map bv)) (hc : l.length ≤ c) (hl : 32 ≤ l.length) (hm : l.length ≤ 1099511627776) :
    Calls Try.prog 58 #[.slice A l.length c, .agg f.cells.toArray] w fun r w' => r = .returned (.agg (Gt.cells ⟨⟨2, 0, none, 0, [], l.take 32⟩, 0, cutA A c 32, c - 32, l.drop 32⟩).toArray) ∧ Turn (fun _ => False) w w' := by
  obtain ⟨C, hC⟩ : ∃ C, C = f.cells.toArray := ⟨_, rfl⟩
  have sC : C.size = 35 := by rw [hC, List.size_toArray, f.len hd]
  obtain ⟨wa, hwa⟩ : ∃ wa, wa = (w.alloc (.cells C 92)).alloc (.cells Z37 94) := ⟨_, rfl⟩
  have g1 : wa.heap[w.heap.size]? = some (.cells C 92 (0, 0)) := by rw [hwa]; exact heap_alloc2_old w _ _
  have g2 := Lib.hid (show wa.heap[w.heap.size + 1]? = some (.cells Z37 94 (0, 0)) by rw [hwa]; exact heap_alloc2_new w _ _)
  have c0 : wa.cell? ⟨w.heap.size, 0, none⟩ = some (.int .i64 2) := by rw [cell_of_row _ _ _ _ _ _ g1, hC, ← hk]; rfl
  have T1 := Lib.hid (show Turn (fun _ => False) w wa by rw [hwa]; exact (((Turn.refl (fun _ => False) w).alloc _).alloc _))
  have HSz := Lib.hid (show wa.heap.size = w.heap.size + 2 by rw [hwa]; simp)
  have hzd := zero_got
  change ∀ w, _ = Result.ok (Value.agg Z37) w at hzd
  have hz3 := zero_field
  change ∀ w, _ = Result.ok (Value.agg Z35) w at hz3
  have hz35 : Z35.size = 35 := rfl
  have hz37 : Z37.size = 37 := rfl
  obtain ⟨n, hn⟩ : ∃ n, n = l.length := ⟨_, rfl⟩
  have hsl := slice_lo A n c 32 (by omega)
  change ∀ w, (Instr.slice 34 (.slice A n c) (some (.int .i64 32)) none none).run Try.prog w = _ at hsl
  obtain ⟨A2, hA2⟩ : ∃ A2, A2 = cutA A c 32 := ⟨_, rfl⟩
  obtain ⟨n2, hn2⟩ : ∃ n2, n2 = n - 32 := ⟨_, rfl⟩
  obtain ⟨c2, hc2⟩ : ∃ c2, c2 = c - 32 := ⟨_, rfl⟩
  obtain ⟨FD, hFD⟩ : ∃ FD, Z35.setIfInBounds 0 (.int .i64 2) = FD := ⟨_, rfl⟩
  have sFD : FD.size = 35 := by rw [← hFD]; rfl
  obtain ⟨GD1, hGD1⟩ : ∃ GD1, Array.foldl (fun (cs : Array Value) (x : Value × Nat) => cs.setIfInBounds x.snd x.fst) Z37 FD.zipIdx 0 35 = GD1 := ⟨_, rfl⟩
  have e1 : GD1 = (([.int .i64 2, .int .u64 0, .slice none 0 0] ++ (zeros 32).map bv ++ [.int .i64 0, .slice none 0 0] : List Value)).toArray := by rw [← hGD1, ← hFD]; exact fold_id
  have sGD : GD1.size = 37 := by rw [e1]; rfl
  obtain ⟨GD, hGD⟩ : ∃ GD, GD1.setIfInBounds 36 (.slice A2 n2 c2) = GD := ⟨_, rfl⟩
  have e2 : GD = (idRow A2 n2 c2 l 0).toArray := by
    rw [← hGD, e1]
    exact fold_end2 ([.int .i64 2, .int .u64 0, .slice none 0 0] ++ (zeros 32).map bv) rfl A2 n2 c2
  have s2 : GD.size = 37 := by rw [← hGD, Array.size_setIfInBounds, sGD]
  have H1 := Lib.hid (show (Try.prog.info? 94).map (·.size) = some GD.size by rw [s2]; kernel_rfl)
  have H2 := Lib.hid (show Z37.size = GD.size by rw [s2]; rfl)
  have H3 := Lib.hid (show GD.all (·.oneCell') = true by
    rw [e2, Array.all_eq_true_iff_forall_mem]; intro u hu
    simp only [idRow, List.mem_toArray, List.mem_append, List.mem_cons, List.not_mem_nil, or_false, List.mem_map] at hu
    rcases hu with (rfl | rfl | rfl) | ⟨x, _, rfl⟩ | rfl | rfl <;> rfl)
  obtain ⟨G, hG⟩ : ∃ G, G = (Gt.cells ⟨⟨2, 0, none, 0, [], l.take 32⟩, 0, A2, c2, l.drop 32⟩).toArray := ⟨_, rfl⟩
  have hGR : G = (idRow A2 n2 c2 l 32).toArray := by
    rw [hG, Gt.cells, Fd.cells, idRow, List.length_drop, ← hn, ← hn2, Nat.sub_self]; simp [zeros]
  have s3 : G.size = 37 := by rw [hGR, List.size_toArray, idRow_len _ _ _ _ _ (by omega) (by omega)]
  have G1 := Lib.hid (show (Try.prog.info? 94).map (·.size) = some G.size by rw [s3]; kernel_rfl)
  have G2 := Lib.hid (show Z37.size = G.size by rw [s3]; rfl)
  have G3 := Lib.hid (show G.all (·.oneCell') = true by rw [hG]; exact Gt.one _)
  rw [← hA2, ← hc2, ← hG, ← hC, ← hn]
  have HGR := Lib.hid hGR
  have HE2 := Lib.hid e2
  have HSL := Lib.hid (hs.turn (N' := fun i => i = w.heap.size + 2) T1.out (fun _ h => h.elim) (fun i hi h => by omega))
  rw [← hA2, ← hn2, ← hc2] at hsl
  have HN := Lib.hid hn
  have hl2 : 32 ≤ n := by omega
  have hc3 : n ≤ c := by omega
  have hm2 : n ≤ 1099511627776 := by omega
  clear hC sC g1 e1 e2 s2 hG hGR s3 hk hs hd hc hl hm hA2 hn hn2 hc2
  go_enter Try.func58, Try.ntmps58
  go_upto_region 1 with fail
  change Code.wp _ _ _ _ ((w.alloc (.cells C 92)).alloc (.cells Z37 94))
  rw [← hwa]
  clear hwa
  have gz := Lib.hid (show (wa.alloc (.cells Z37 94)).heap[wa.heap.size]? = some (.cells Z37 94 (0, 0)) from heap_alloc_new _ _)
  have HB3 := Lib.hid (show Turn (fun i => i = w.heap.size + 2) wa ((wa.alloc (.cells Z37 94)).setRow wa.heap.size GD) from ((Turn.refl _ wa).alloc _).setRow _ _ (fun h => by omega))
  have HG3 := Lib.hid (show ((wa.alloc (.cells Z37 94)).setRow wa.heap.size GD).heap[wa.heap.size]? = some (.cells GD 94 (0, 0)) from setRow_heap _ wa.heap.size Z37 GD _ _ gz.out)
  go_wp2_with (refine wpList_store_row rfl _ _ _ rfl wa.heap.size GD rfl rfl 94 Z37 gz.out H1.out H2.out H3.out ?_; refine stopF ?_)
  unfold StopF
  obtain ⟨w3, hw3⟩ : ∃ w3, w3 = (wa.alloc (.cells Z37 94)).setRow wa.heap.size GD := ⟨_, rfl⟩
  change wpList _ _ _ _ _ ((wa.alloc (.cells Z37 94)).setRow wa.heap.size GD)
  rw [← hw3] at HB3 HG3 ⊢
  rw [HE2.out, HSz.out] at HG3
  rw [HSz.out]
  clear hw3 gz
  go_wp2_with fail
  go_loopw [6] (fun i wr => ∃ k : Nat, k ≤ 32 ∧ i = .int .i64 k ∧ wr.heap[w.heap.size + 2]? = some (.cells (idRow A2 n2 c2 l k).toArray 94 (0, 0)) ∧ Turn (fun i => i = w.heap.size + 2) wa wr) (fun i _ => 32 - (intOf i).toNat)
  case atStart => exact ⟨0, Nat.zero_le _, rfl, HG3.out, HB3.out⟩
  case round =>
    obtain ⟨k, hk, rfl, hg, ht⟩ := hrel
    have HG := Lib.hid hg
    have HT := Lib.hid ht
    by_cases hlt : k < 32
    · have hkl : k < l.length := by have := HN.out; omega
      obtain ⟨ad, rfl, hnb, hcl⟩ := HSL.out.at (bvs_at l k hkl)
      have hcell : wr.cell? (ad.add k) = some (bv l[k]) := ht.cell hcl (by rw [add_block]; exact hnb)
      obtain ⟨u, hu⟩ := idRow_at A2 n2 c2 l k (by omega) hlt
      have hcu : wr.cell? ⟨w.heap.size + 2, 3 + k, none⟩ = some u := by rw [cell_of_row wr _ _ _ _ _ hg]; exact hu
      have hfr : wr.frozen? ⟨w.heap.size + 2, 3 + k, none⟩ = false := frozen_of_row wr _ _ _ _ hg
      have HS := Lib.hid (show (wr.setCell ⟨w.heap.size + 2, 3 + k, none⟩ (bv l[k])).heap[w.heap.size + 2]? = some (.cells (idRow A2 n2 c2 l (k + 1)).toArray 94 (0, 0)) by
        rw [heap_setCell_same _ _ _ _ _ _ HG.out, idRow_set A2 n2 c2 l k hkl hlt])
      have HT2 := Lib.hid (show Turn (fun i => i = w.heap.size + 2) wa (wr.setCell ⟨w.heap.size + 2, 3 + k, none⟩ (bv l[k])) from HT.out.setCell _ _ (fun _ => rfl))
      clear hg ht hcl hu hnb
      generalize l[k] = x at *
      unfold bv at hcell HS HT2
      go_wp2
      go_roundw
      case rel => exact ⟨k + 1, by omega, by go_num, HS.out, HT2.out⟩
      case measure => simp [intOf]; omega
    · obtain rfl : k = 32 := by omega
      rw [← HGR.out] at HG
      have HR1 := Lib.hid (HT.out.heap g2.out (by omega))
      clear hg ht
      go_wp2_with (first
        | (refine wpList_load_row rfl _ _ rfl (w.heap.size + 2) rfl _ G (0, 0) _ HG.out Try.underlying94 rfl G1.out ?_)
        | (refine wpList_store_row rfl _ _ _ rfl (w.heap.size + 1) G rfl rfl 94 Z37 HR1.out G1.out G2.out G3.out ?_))
      refine bodyPost_ret (v := .agg G) ?_ rfl ⟨rfl, ((T1.out.trans HT.out (S' := fun i => i = w.heap.size + 2) (fun i hi h => by omega)).setRow _ _ (fun h => by omega))⟩
      exact results_cell_row Try.results58 _ _ (w.heap.size + 1) _ G (0, 0) _ rfl (setRow_heap _ _ _ _ _ _ HR1.out) Try.underlying94 rfl G1.out
end Go.Proofs.Ytgjplbanfnomkaa
