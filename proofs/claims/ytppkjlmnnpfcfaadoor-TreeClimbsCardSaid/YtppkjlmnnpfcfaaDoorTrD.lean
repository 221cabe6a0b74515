/- The document's small functions of layer 5: half, a digest as bytes. -/
import Derived.Test.YtppkjlmnnpfcfaaDoorTrC
set_option linter.unusedVariables false
namespace Go.Proofs.YtppkjlmnnpfcfaaDoor
open Go.RowKit
theorem half_any (n : Nat) (w : World) (h2 : 2 ≤ n) (h : n < 1099511627776) : Calls Tryd.prog 26 #[.int .i64 (n : Int)] w fun e w' => e = .returned (.int .i64 (hp n : Int)) ∧ w' = w := by
  go_enter Tryd.func26, Tryd.ntmps26
  go_wp2
  go_loopw [3] (fun i wr => ∃ k j : Nat, k = 2 ^ j ∧ k < n ∧ i = .int .i64 (k : Int) ∧ wr = w) (fun i _ => n - (intOf i).toNat)
  case atStart => exact ⟨1, 0, rfl, by omega, rfl, rfl⟩
  case round =>
    obtain ⟨k, j, hj, hk, rfl, rfl⟩ := hrel
    have h1 : 1 ≤ k := by rw [hj]; exact Nat.one_le_two_pow
    by_cases hlt : 2 * k < n
    · have HJ := Lib.hid (show 2 * k = 2 ^ (j + 1) by rw [hj, Nat.pow_succ]; omega)
      clear hj
      go_wp2
      go_roundw
      case rel => exact ⟨2 * k, j + 1, HJ.out, hlt, by go_num, by trivial⟩
      case measure => simp [intOf]; omega
    · have HJ := Lib.hid (show k = hp n by rw [hj]; exact hp_uniq (by rw [← hj]; exact hk) (by rw [← hj]; omega))
      clear hj
      go_wp2
      go_ret
      rw [HJ.out]
      exact ⟨rfl, rfl⟩
set_option maxRecDepth 100000 in
set_option maxHeartbeats 1000000 in
theorem id_any (d : List B8) (w : World) (hd : d.length = 32) : Calls Tryd.prog 39 #[.agg (d.map bv).toArray] w fun e w' => ∃ v, e = .returned v ∧ w'.ownsRow w.heap.size 5 1 v 32 (d.map bv) ∧ Below w.heap.size w w' := by
  obtain ⟨i0, hi, hz0, hz1, hz2⟩ := info_parts info_u8
  have rd := row_at d hd _ w.heap.size _ _ (heap_alloc_new w (.cells (d.map bv).toArray 26))
  have hbz : Below w.heap.size w (w.alloc (.cells (d.map bv).toArray 26)) := (Below.refl _ _).alloc (Nat.le_refl _) _
  have hsz : (w.alloc (.cells (d.map bv).toArray 26)).heap.size = w.heap.size + 1 := by simp
  have RD := Lib.hid rd
  have HBZ := Lib.hid hbz
  have HD := Lib.hid hd
  clear rd hbz hd
  go_enter Tryd.func39, Tryd.ntmps39
  go_wp2
  generalize w.alloc (.cells (d.map bv).toArray 26) = wz at *
  go_loopw [3, 4] (fun v i wr => ∃ k : Nat, k ≤ 32 ∧ i = .int .i64 (k : Int) ∧ wr.ownsRow (w.heap.size + 1) 5 1 v k ((d.take k).map bv) ∧ Below (w.heap.size + 1) wz wr) (fun _ i _ => 32 - (intOf i).toNat)
  case atStart => exact ⟨0, by omega, rfl, World.ownsRow_nil _ _ _ _, Below.refl _ _⟩
  case round =>
    obtain ⟨k, hk, rfl, ho, hb⟩ := hrel
    by_cases hlt : k < 32
    · have hc := RD.out k hlt
      have hcr : wr.cell? ⟨w.heap.size, k, none⟩ = some (bv (d.getD k 0)) := (hb.cell (by simp)).trans hc
      have HT := Lib.hid (show (d.take (k + 1)) = d.take k ++ [d.getD k 0] by
        rw [List.take_succ_eq_append_getElem (by rw [HD.out]; exact hlt), List.getD_eq_getElem?_getD, List.getElem?_eq_getElem (by rw [HD.out]; exact hlt)]; rfl)
      have HO := Lib.hid ho
      have HB := Lib.hid hb
      have hsr : w.heap.size + 1 ≤ wr.heap.size := by have := hb.size; omega
      clear hc ho hb
      generalize d.getD k 0 = x at *
      unfold bv at hcr
      go_wp2_with (at_builtin; refine stop ?_)
      unfold Stop
      have ha : Below wr.heap.size wr (wr.alloc (.cells #[.int .u8 (x.toNat : Int)] 5)) := (Below.refl _ _).alloc (Nat.le_refl _) _
      have HO2 := Lib.hid (own_below HO.out ha)
      have HB2 := Lib.hid (HB.out.trans (ha.mono hsr))
      clear ha
      refine wpList_append_any (o := ⟨some 14, _, _, _, _, _⟩) rfl _ _ 32 rfl (w.heap.size + 1) 5 i0 (.int .u8 0) 1 Tryd.underlying32 hi hz0 hz1 hz2 rfl _ k _ rfl HO2.out (some ⟨wr.heap.size, 0, none⟩) 1 1 [bv x] rfl (fun h => by cases h) rfl ?_ (bv_one [x]) ?_ ?_ ?_ ?_
      · intro j u hu
        refine ⟨_, rfl, ?_⟩
        match j, hu with
        | 0, hu =>
          obtain rfl : bv x = u := by simpa using hu
          show World.cell? _ ⟨wr.heap.size, 0, none⟩ = _
          rw [cell_of_row _ _ _ _ _ _ (heap_alloc_new wr _)]; rfl
      · unfold maxLen; omega
      · omega
      · simp; omega
      intro v3 w3 g1 g2
      have HO3 := Lib.hid (show w3.ownsRow (w.heap.size + 1) 5 1 v3 (k + 1) ((d.take (k + 1)).map bv) by rw [HT.out, List.map_append]; exact g1)
      have HB3 := Lib.hid (HB2.out.grown g2 (by simp; omega) (fun k hk => (HO2.out.lt k hk).1))
      clear g1 g2
      go_wp2_with fail
      go_roundw
      case rel => exact ⟨k + 1, by omega, by go_num, HO3.out, HB3.out⟩
      case measure => simp [intOf]; omega
    · obtain rfl : k = 32 := by omega
      rw [List.take_of_length_le (by rw [HD.out]; omega)] at ho
      have HO := Lib.hid ho
      have HB := Lib.hid hb
      clear ho hb
      go_wp2_with fail
      go_ret
      exact ⟨_, rfl, own_more HO.out (by omega), HBZ.out.trans (HB.out.mono (by omega))⟩
end Go.Proofs.YtppkjlmnnpfcfaaDoor
