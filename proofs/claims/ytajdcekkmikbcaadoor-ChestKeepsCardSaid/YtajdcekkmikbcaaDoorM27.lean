/- Merged: The document's number: Num. -/
import Derived.Test.YtajdcekkmikbcaaDoorM14
namespace Go.Proofs.YtajdcekkmikbcaaDoor
section
set_option linter.unusedVariables false
set_option linter.unusedSimpArgs false
section
set_option linter.unusedVariables false
set_option linter.unusedSimpArgs false

open Go.RowKit
set_option maxRecDepth 100000 in
set_option maxHeartbeats 1000000 in
theorem rnum_any (n : Nat) (w : World) (hn : n < 18446744073709551616) :
    Calls Tryd.prog 76 #[.int .u64 (n : Int)] w fun e w' => ∃ v, e = .returned v ∧ w'.ownsRow w.heap.size 5 1 v (numB n).length ((numB n).map bv) ∧ Turn (fun _ => False) w w' := by
  obtain ⟨i0, hi, hz0, hz1, hz2⟩ := info_parts info_u8
  have hk8 := klen_eight hn
  have HK8 := Lib.hid hk8
  go_enter Tryd.func76, Tryd.ntmps76
  go_wp2
  go_loop [3, 4] (fun k v => ∃ j q : Nat, k = .int .i64 j ∧ v = .int .u64 q ∧ j + klen q = klen n ∧ q < 18446744073709551616) (fun _ v => (intOf v).toNat)
  case atStart => exact ⟨0, n, rfl, rfl, by omega, hn⟩
  case round =>
    obtain ⟨j, q, rfl, rfl, hj, hq⟩ := hrel
    by_cases h0 : q = 0
    · subst h0
      rw [klen_zero] at hj
      obtain rfl : j = klen n := by omega
      obtain ⟨k, hkk⟩ : ∃ k, k = klen n := ⟨_, rfl⟩
      rw [← hkk] at hk8 ⊢
      have HN := Lib.hid (show numB n = BitVec.ofNat 8 k :: beN k n by rw [hkk]; rfl)
      clear hkk hj hq HK8
      have ho := own_new w w.heap.size 5 [bv (BitVec.ofNat 8 k)] 1 rfl (Nat.le_refl _) (by unfold maxLen; omega)
      have hkb : bv (BitVec.ofNat 8 k) = Value.int IntKind.u8 (k : Int) := by unfold bv; rw [BitVec.toNat_ofNat, Nat.mod_eq_of_lt (by omega)]
      rw [hkb] at ho
      have HO := Lib.hid ho
      have HT := Lib.hid ((Turn.refl (fun _ => False) w).alloc (.cells #[Value.int IntKind.u8 (k : Int)] 5))
      have HKB := Lib.hid hkb
      clear ho hkb
      go_wp2
      go_loopw [5, 6] (fun u i wr => ∃ (m : Nat) (z : Int) (W : List B8), i = .int .i64 z ∧ z ≤ (m : Int) - 1 ∧ (m : Int) - 1 ≤ z ∧ m ≤ k ∧ W ++ beN m n = numB n ∧ wr.ownsRow w.heap.size 5 1 u W.length (W.map bv) ∧ Turn (fun _ => False) w wr) (fun _ i _ => (intOf i + 1).toNat)
      case atStart => exact ⟨k, _, [BitVec.ofNat 8 k], rfl, by omega, by omega, Nat.le_refl _, by rw [HN.out]; rfl, by simp only [List.map_cons, List.map_nil, HKB.out]; exact HO.out, HT.out⟩
      case round =>
        clear HO HT
        obtain ⟨m, z, W, rfl, hz1', hz2', hmk, hW, hown, ht⟩ := hrel
        have hWl : W.length + m = 1 + k := by
          have := congrArg List.length hW
          rw [HN.out] at this
          simp [beN_len] at this; omega
        have HW := Lib.hid hW
        have HO := Lib.hid hown
        have HT := Lib.hid ht
        clear hW hown ht
        by_cases h0 : m = 0
        · subst h0
          obtain rfl : z = -1 := by omega
          have hW := HW.out
          rw [beN, List.append_nil] at hW
          subst hW
          go_wp2
          go_ret
          exact ⟨_, rfl, HO.out, HT.out⟩
        · obtain ⟨q, rfl⟩ : ∃ q, m = q + 1 := ⟨m - 1, by omega⟩
          obtain rfl : z = (q : Int) := by omega
          have hq8 : (8 * (q : Int)).toNat = 8 * q := by omega
          have hwr : IntKind.i64.wrap (8 * (q : Int)) = 8 * (q : Int) := IntWalk.i64_in _ (by omega)
          obtain ⟨y, hyy⟩ : ∃ y, y = BitVec.ofNat 8 (n / 256 ^ q) := ⟨_, rfl⟩
          have hy : IntKind.u8.wrap ((n : Int) / 2 ^ (8 * q)) = (y.toNat : Int) := by rw [hyy]; exact byte_int n q
          have HY := Lib.hid hyy
          clear hyy
          go_upto_region 10 with fail
          go_step
          iterate 21 go_step
          refine wpList_append_any_at (o := ⟨some 30, _, _, _, _, _⟩) rfl _ _ 36 rfl w.heap.size 5 i0 (.int .u8 0) 1 Tryd.underlying36 hi hz0 hz1 hz2 rfl u5 W.length _ rfl (HO.out.alloc _) (some ⟨wr.heap.size, 0, none⟩) 1 1 (([y] : List B8).map bv) rfl (fun h => by cases h) rfl ?_ (bv_one [y]) ?_ ?_ ?_ ?_
          · intro j u hu
            exact ⟨_, rfl, World.news_of_block (heap_alloc_new wr (.cells #[.int .u8 (y.toNat : Int)] 5)) j u hu⟩
          · unfold maxLen; omega
          · omega
          · have := HT.out.size; simp; omega
          intro v1 w1 own1 gr1 at1
          have HO1 := Lib.hid own1
          have HT1 := Lib.hid ((HT.out.alloc (.cells #[.int .u8 (y.toNat : Int)] 5)).grown gr1 (fun i hi e => by have := (HO.out.lt i e.symm).1; omega))
          clear own1 gr1 at1
          go_wp2
          go_roundw
          case rel => exact ⟨q, _, W ++ [y], rfl, by omega, by omega, by omega, by rw [← HW.out, HY.out, beN_cons]; simp, by rw [List.length_append, List.map_append]; exact HO1.out, HT1.out⟩
          case measure => simp [intOf]
    · have hd : klen q = klen (q / 256) + 1 := klen_pos h0
      have hp : (0 : Int) < (q : Int) := by omega
      have hj8 : j ≤ 8 := by omega
      have HD := Lib.hid (show (j + 1) + klen (q / 256) = klen n by omega)
      clear hd hj
      go_wp2
      go_round
      case rel => exact ⟨j + 1, q / 256, by go_num, by go_num, HD.out, by omega⟩
      case measure => simp [intOf]; omega
end
end
end Go.Proofs.YtajdcekkmikbcaaDoor
