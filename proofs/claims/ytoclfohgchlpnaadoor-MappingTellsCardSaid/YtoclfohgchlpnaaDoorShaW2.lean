/- The contract of the code's 'schedule': the 64 words of the rounds. -/
import Derived.Test.YtoclfohgchlpnaaDoorShaW1
import Derived.Below
import Derived.BigRegion
import Derived.StillTailTactics
import Derived.Deep.RegionHeld3
import Derived.IntWalk
import Derived.Laws.CopyOwn
namespace Go.Proofs.YtoclfohgchlpnaaDoor
open Go.RowKit

def arrW (l : List W) (n : Nat) : Array Value := (l.map wv ++ List.replicate (64 - n) (Value.int .u32 0)).toArray
theorem arrW_set (l : List W) (n : Nat) (x : W) (hl : l.length = n) (h : n < 64) : (arrW l n).setIfInBounds n (wv x) = arrW (l ++ [x]) (n + 1) := by
  unfold arrW
  rw [List.setIfInBounds_toArray, List.set_append_right _ _ (by simp [hl]), show 64 - n = (64 - (n + 1)) + 1 by omega, List.replicate_succ]
  simp [hl]
theorem arrW_at (l : List W) (n i : Nat) (hl : l.length = n) (h : i < n) : (arrW l n)[i]? = some (wv (l.getD i 0)) := by
  unfold arrW
  rw [List.getElem?_toArray, List.getElem?_append_left (by simp [hl, h]), List.getElem?_map, List.getD_eq_getElem?_getD, List.getElem?_eq_getElem (by omega)]
  rfl
theorem arrW_zero (l : List W) (n : Nat) (hl : l.length = n) (h : n < 64) : (arrW l n)[n]? = some (Value.int .u32 0) := by
  unfold arrW
  rw [List.getElem?_toArray, List.getElem?_append_right (by simp [hl]), show 64 - n = (64 - (n + 1)) + 1 by omega, List.replicate_succ]
  simp [hl]
theorem be4_eq (a b c d : B8) : bits .or .u32 (bits .or .u32 (bits .or .u32 ((a.toNat : Int) * (16777216 : Int)) ((b.toNat : Int) * (65536 : Int))) ((c.toNat : Int) * (256 : Int))) (d.toNat : Int) = ((be4 a b c d).toNat : Int) := by
  have h : ∀ (x : B8) (n : Nat), n ≤ 24 → (x.toNat : Int) * (2 : Int) ^ n = ((x.setWidth 32 <<< n).toNat : Int) := fun x n hn => by
    rw [← wshl, ← wset]
    have hx := x.isLt
    have h1 : x.toNat * 2 ^ n ≤ 255 * 2 ^ 24 := Nat.mul_le_mul (by omega) (Nat.pow_le_pow_right (by decide) hn)
    have h2 : (x.toNat : Int) * (2 : Int) ^ n = ((x.toNat * 2 ^ n : Nat) : Int) := by rw [Int.natCast_mul, Int.natCast_pow]; rfl
    rw [h2]
    generalize x.toNat * 2 ^ n = y at h1 ⊢
    omega
  rw [show (16777216 : Int) = 2 ^ 24 from rfl, show (65536 : Int) = 2 ^ 16 from rfl, show (256 : Int) = 2 ^ 8 from rfl, h a 24 (by decide), h b 16 (by decide), h c 8 (by decide), wset d, wor, wor, wor]
  rfl
theorem sch_lo (m : List B8) (k : Nat) (h : k < 16) : sch m (k + 1) = sch m k ++ [wordAt m k] := by simp [sch, h]
theorem sch_hi (m : List B8) (k : Nat) (h : ¬ k < 16) : sch m (k + 1) = sch m k ++ [nextW (sch m k) k] := by simp [sch, h]
theorem set_new (w : World) (A : Obj) (c : Array Value) (t : TypeId) (n k : Nat) (v : Value) :
    (((w.alloc A).alloc (.cells c t)).drewN n).setCell ⟨w.heap.size + 1, k, none⟩ v = ((w.alloc A).alloc (.cells (c.setIfInBounds k v) t)).drewN n := by
  have h := World.setCell_alloc_at (w := w.alloc A) c t (w.heap.size + 1) k v (by simp)
  show (((w.alloc A).alloc (.cells c t)).setCell ⟨w.heap.size + 1, k, none⟩ v).drewN n = _
  rw [h]
theorem arrW_size (l : List W) (n : Nat) (hl : l.length = n) (h : n ≤ 64) : (arrW l n).size = 64 := by simp [arrW, hl]; omega
theorem arrW_one (l : List W) (n : Nat) : (arrW l n).all (·.oneCell') = true := by
  rw [Array.all_eq_true_iff_forall_mem]
  intro v hv
  simp only [arrW, List.mem_toArray, List.mem_append, List.mem_map, List.mem_replicate] at hv
  rcases hv with ⟨x, _, rfl⟩ | ⟨_, rfl⟩ <;> rfl
theorem cell_set_ne (W : World) (B k a : Nat) (v : Value) (ha : a ≠ k) : (W.setCell ⟨B, k, none⟩ v).cell? ⟨B, a, none⟩ = W.cell? ⟨B, a, none⟩ := by
  simp only [World.cell?, World.setCell, Array.getElem?_modify]
  cases hb : W.heap[B]? with
  | none => simp
  | some o => cases o <;> simp [Ne.symm ha]
theorem keep4 {W : World} {B k a b c d : Nat} {v va vb vc vd : Value} (ha : a ≠ k) (hb : b ≠ k) (hc : c ≠ k) (hd : d ≠ k)
    (h : W.cell? ⟨B, a, none⟩ = some va ∧ W.cell? ⟨B, b, none⟩ = some vb ∧ W.cell? ⟨B, c, none⟩ = some vc ∧ W.cell? ⟨B, d, none⟩ = some vd) :
    (W.setCell ⟨B, k, none⟩ v).cell? ⟨B, a, none⟩ = some va ∧ (W.setCell ⟨B, k, none⟩ v).cell? ⟨B, b, none⟩ = some vb ∧ (W.setCell ⟨B, k, none⟩ v).cell? ⟨B, c, none⟩ = some vc ∧ (W.setCell ⟨B, k, none⟩ v).cell? ⟨B, d, none⟩ = some vd := by
  rw [cell_set_ne _ _ _ _ _ ha, cell_set_ne _ _ _ _ _ hb, cell_set_ne _ _ _ _ _ hc, cell_set_ne _ _ _ _ _ hd]; exact h
theorem z64 : (List.replicate 64 (Value.int .u32 0)).toArray = arrW [] 0 := rfl
set_option maxHeartbeats 2000000 in
theorem schedule_any (g : Nat) (m : List B8) (w : World) (hc : ∀ i, i < 64 → w.cell? ⟨g, 8 + i, none⟩ = some (bv (m.getD i 0))) (hg : g < w.heap.size) :
    Calls Tryd.prog 57 #[.pointer (some ⟨g, 8, none⟩)] w fun e w' => e = .returned (.agg (arrW (sch m 64) 64)) ∧ Below w.heap.size w w' := by
  have HC := Lib.hid hc
  clear hc
  go_enter Tryd.func57, Tryd.ntmps57
  go_wp2
  go_loopw [4, 5, 7] (fun _ _ i wr => ∃ k n : Nat, k ≤ 16 ∧ i = .int .i64 k ∧ wr = ((w.alloc (.cells (arrW [] 0) 99)).alloc (.cells (arrW (sch m k) k) 99)).drewN n) (fun _ _ i _ => 16 - (intOf i).toNat)
  case atStart => exact ⟨0, 0, Nat.zero_le _, rfl, rfl⟩
  case round =>
    obtain ⟨k, n, hk, rfl, rfl⟩ := hrel
    by_cases hlt : k < 16
    · obtain ⟨x0, hx0⟩ : ∃ x, x = m.getD (4 * k) 0 := ⟨_, rfl⟩
      obtain ⟨x1, hx1⟩ : ∃ x, x = m.getD (4 * k + 1) 0 := ⟨_, rfl⟩
      obtain ⟨x2, hx2⟩ : ∃ x, x = m.getD (4 * k + 2) 0 := ⟨_, rfl⟩
      obtain ⟨x3, hx3⟩ : ∃ x, x = m.getD (4 * k + 3) 0 := ⟨_, rfl⟩
      have c0 := HC.out (4 * k) (by omega)
      have c1 := HC.out (4 * k + 1) (by omega)
      have c2 := HC.out (4 * k + 2) (by omega)
      have c3 := HC.out (4 * k + 3) (by omega)
      rw [← hx0] at c0
      rw [← hx1] at c1
      rw [← hx2] at c2
      rw [← hx3] at c3
      unfold bv at c0 c1 c2 c3
      have HE := Lib.hid (show wordAt m k = be4 x0 x1 x2 x3 by rw [hx0, hx1, hx2, hx3]; rfl)
      clear hx0 hx1 hx2 hx3
      have hst := arrW_zero (sch m k) k (sch_len m k) (by omega)
      go_wp2
      go_region
      clear c0 c1 c2 c3 hst
      go_wp2
      go_roundw
      case rel => exact ⟨k + 1, n + 1, by omega, by go_num, by
        rw [be4_eq, ← HE.out, show Value.int .u32 ((wordAt m k).toNat : Int) = wv (wordAt m k) from rfl, set_new, arrW_set _ _ _ (sch_len m k) (by omega), ← sch_lo m k hlt]⟩
      case measure => simp [intOf]; omega
    · have H16 := Lib.hid (show k = 16 by omega)
      clear hk HC
      go_wp2
      go_loopw [6] (fun i wr => ∃ k n : Nat, 16 ≤ k ∧ k ≤ 64 ∧ i = .int .i64 k ∧ wr = ((w.alloc (.cells (arrW [] 0) 99)).alloc (.cells (arrW (sch m k) k) 99)).drewN n) (fun i _ => 64 - (intOf i).toNat)
      case atStart => exact ⟨16, _, by omega, by omega, rfl, by rw [H16.out]⟩
      case round =>
        clear hlt
        obtain ⟨k, n, hk1, hk2, rfl, rfl⟩ := hrel
        by_cases hlt : k < 64
        · obtain ⟨x0, hx0⟩ : ∃ x, x = (sch m k).getD (k - 16) 0 := ⟨_, rfl⟩
          obtain ⟨x1, hx1⟩ : ∃ x, x = (sch m k).getD (k - 15) 0 := ⟨_, rfl⟩
          obtain ⟨x2, hx2⟩ : ∃ x, x = (sch m k).getD (k - 7) 0 := ⟨_, rfl⟩
          obtain ⟨x3, hx3⟩ : ∃ x, x = (sch m k).getD (k - 2) 0 := ⟨_, rfl⟩
          have c0 := arrW_at (sch m k) k (k - 16) (sch_len m k) (by omega)
          have c1 := arrW_at (sch m k) k (k - 15) (sch_len m k) (by omega)
          have c2 := arrW_at (sch m k) k (k - 7) (sch_len m k) (by omega)
          have c3 := arrW_at (sch m k) k (k - 2) (sch_len m k) (by omega)
          rw [← hx0] at c0
          rw [← hx1] at c1
          rw [← hx2] at c2
          rw [← hx3] at c3
          unfold wv at c0 c1 c2 c3
          have HE := Lib.hid (show nextW (sch m k) k = x0 + ss0 x1 + x2 + ss1 x3 by rw [hx0, hx1, hx2, hx3]; rfl)
          clear hx0 hx1 hx2 hx3
          have hst := arrW_zero (sch m k) k (sch_len m k) (by omega)
          have a1 : (0 : Int) ≤ (k : Int) - 16 := by omega
          have a2 : (0 : Int) ≤ (k : Int) - 15 := by omega
          have a3 : (0 : Int) ≤ (k : Int) - 7 := by omega
          have a4 : (0 : Int) ≤ (k : Int) - 2 := by omega
          have a1' : (16 : Int) ≤ (k : Int) := by omega
          have a2' : (15 : Int) ≤ (k : Int) := by omega
          have a3' : (7 : Int) ≤ (k : Int) := by omega
          have a4' : (2 : Int) ≤ (k : Int) := by omega
          have b1 : (k : Int) - 16 < 64 := by omega
          have b2 : (k : Int) - 15 < 64 := by omega
          have b3 : (k : Int) - 7 < 64 := by omega
          have b4 : (k : Int) - 2 < 64 := by omega
          have f1 : ((k : Int) - 16).toNat = k - 16 := by omega
          have f2 : ((k : Int) - 15).toNat = k - 15 := by omega
          have f3 : ((k : Int) - 7).toNat = k - 7 := by omega
          have f4 : ((k : Int) - 2).toNat = k - 2 := by omega
          have g1 : IntKind.i64.wrap ((k : Int) - 16) = (k : Int) - 16 := IntWalk.i64_in _ (by omega)
          have g2 : IntKind.i64.wrap ((k : Int) - 15) = (k : Int) - 15 := IntWalk.i64_in _ (by omega)
          have g3 : IntKind.i64.wrap ((k : Int) - 7) = (k : Int) - 7 := IntWalk.i64_in _ (by omega)
          have g4 : IntKind.i64.wrap ((k : Int) - 2) = (k : Int) - 2 := IntWalk.i64_in _ (by omega)
          have E1 := Lib.hid (fun w => ss0_any x1 w)
          have E2 := Lib.hid (fun w => ss1_any x3 w)
          go_wp2
          go_region_held3 (fun w' => w'.cell? ⟨w.heap.size + 1, k - 16, none⟩ = some (.int .u32 (x0.toNat : Int)) ∧ w'.cell? ⟨w.heap.size + 1, k - 15, none⟩ = some (.int .u32 (x1.toNat : Int)) ∧
              w'.cell? ⟨w.heap.size + 1, k - 7, none⟩ = some (.int .u32 (x2.toNat : Int)) ∧ w'.cell? ⟨w.heap.size + 1, k - 2, none⟩ = some (.int .u32 (x3.toNat : Int)))
            (first | go_keep | exact keep4 (by omega) (by omega) (by omega) (by omega) ‹_›)
            (first
              | (go_at_call 79; ((with_reducible refine (E1.out _).mono ?_); rintro e w' ⟨rfl, nn, rfl⟩))
              | (go_at_call 79; ((with_reducible refine (E2.out _).mono ?_); rintro e w' ⟨rfl, nn, rfl⟩)))
          clear c0 c1 c2 c3 hst E1 E2 a1 a2 a3 a4 a1' a2' a3' a4' b1 b2 b3 b4 f1 f2 f3 f4 g1 g2 g3 g4
          go_wp2
          go_roundw
          case rel => exact ⟨k + 1, _, by omega, by omega, by go_num, by
            rw [wadd, wadd, wadd, ← HE.out, show Value.int .u32 ((nextW (sch m k) k).toNat : Int) = wv (nextW (sch m k) k) from rfl, set_new, arrW_set _ _ _ (sch_len m k) (by omega), ← sch_hi m k (by omega)]⟩
          case measure => simp [intOf]; omega
        · obtain rfl : k = 64 := by omega
          clear hlt hk1 hk2
          obtain ⟨wz, hwz⟩ : ∃ wz, wz = ((w.alloc (.cells (arrW [] 0) 99)).alloc (.cells (arrW (sch m 64) 64) 99)).drewN n := ⟨_, rfl⟩
          obtain ⟨C, hC⟩ : ∃ C, C = arrW (sch m 64) 64 := ⟨_, rfl⟩
          have hA : wz.heap[w.heap.size]? = some (.cells (arrW [] 0) 99 (0, 0)) := by rw [hwz]; exact heap_alloc2_old _ _ _
          have hB : wz.heap[w.heap.size + 1]? = some (.cells C 99 (0, 0)) := by rw [hwz, hC]; exact heap_alloc2_new _ _ _
          have hb : Below w.heap.size w wz := by
            rw [hwz]; exact below_drewN (((Below.refl _ _).alloc (Nat.le_refl _) _).alloc (by simp) _)
          have hsz : C.size = 64 := by rw [hC]; exact arrW_size _ _ (sch_len m 64) (by omega)
          have hz1 : (Tryd.prog.info? 99).map (·.size) = some C.size := by rw [hsz]; kernel_rfl
          have hz2 : (arrW [] 0).size = C.size := by rw [hsz]; rfl
          have hz3 : C.all (·.oneCell') = true := by rw [hC]; exact arrW_one (sch m 64) 64
          have HA := Lib.hid hA
          have HB := Lib.hid hB
          have H1 := Lib.hid hz1
          have H2 := Lib.hid hz2
          have H3 := Lib.hid hz3
          have HCC := Lib.hid hC
          rw [← hwz]
          clear hwz hA hB hz1 hz2 hz3 hC hsz
          go_wp2_with (first
            | (refine wpList_load_row rfl _ _ rfl (w.heap.size + 1) rfl _ C (0, 0) _ HB.out Tryd.underlying99 rfl H1.out ?_)
            | (refine wpList_store_row rfl _ _ _ rfl w.heap.size C rfl rfl _ _ HA.out H1.out H2.out H3.out ?_))
          have hA2 := setRow_heap wz w.heap.size (arrW [] 0) C 99 (0, 0) HA.out
          refine bodyPost_ret (v := .agg C) ?_ rfl ⟨by rw [HCC.out], below_setRow hb (Nat.le_refl _) C⟩
          exact results_cell_row Tryd.results57 _ _ w.heap.size _ C (0, 0) _ rfl hA2 Tryd.underlying99 rfl H1.out
end Go.Proofs.YtoclfohgchlpnaaDoor
