/- The walks of the four laws of package sums. -/
import Derived.Test.YtfjhcamklopkmaaAllWalks
import Derived.LoopTactic
namespace Go.Proofs.Ytfjhcamklopkmaa
open Go.RowKit

theorem allV_sum (l : List Nat) : ∀ s, s ≤ M → allV s l = if s + l.sum ≤ M then (s + l.sum, 0) else (0, 6) := by
  induction l with
  | nil => intro s h; simp [allV, h]
  | cons a l ih =>
    intro s h
    rw [allV, List.sum_cons]
    by_cases ha : s + a ≤ M
    · rw [if_pos ha, ih _ ha, Nat.add_assoc]
    · rw [if_neg ha, if_neg (by omega)]
theorem allV_reverse (l : List Nat) : allV 0 l.reverse = allV 0 l := by
  rw [allV_sum _ _ (Nat.zero_le _), allV_sum _ _ (Nat.zero_le _), List.sum_reverse]
def splN (a n k : Nat) : List Nat := (List.range k).map (sv a n)
theorem spl_u64s (a n k : Nat) : spl a n k = u64s (splN a n k) := by simp [spl, u64s, splN]
theorem splN_len (a n k : Nat) : (splN a n k).length = k := by simp [splN]
theorem splN_sum (a n k : Nat) : (splN a n k).sum = k * (a / n) + min k (a % n) := by
  induction k with
  | zero => simp [splN]
  | succ k ih =>
    have : splN a n (k + 1) = splN a n k ++ [sv a n k] := by simp [splN, List.range_succ]
    rw [this, List.sum_append, ih, Nat.succ_mul]
    unfold sv
    by_cases h : k < a % n
    · simp [h]; omega
    · simp [h]; omega
theorem splN_all (a n : Nat) (ha : a ≤ M) (hn : 1 ≤ n) : allV 0 (splN a n n) = (a, 0) := by
  have h : (splN a n n).sum = a := by
    rw [splN_sum, Nat.min_eq_right (Nat.le_of_lt (Nat.mod_lt _ (by omega)))]
    exact Nat.div_add_mod a n
  rw [allV_sum _ _ (Nat.zero_le _), h, Nat.zero_add, if_pos ha]
theorem sv_lt (a n i : Nat) (ha : a ≤ M) : sv a n i < 18446744073709551616 := by
  unfold sv
  have := Nat.div_le_self a n
  unfold M at ha
  split <;> omega
theorem splN_lt (a n k : Nat) (ha : a ≤ M) : ∀ x ∈ splN a n k, x < 18446744073709551616 := by
  intro x hx
  simp only [splN, List.mem_map] at hx
  obtain ⟨i, _, rfl⟩ := hx
  exact sv_lt a n i ha

theorem tell_walk (a b : Nat) (wa : a < 18446744073709551616) (wb : b < 18446744073709551616) (w : World) :
    Calls Try.prog 3 #[.int .u64 a, .int .u64 b] w fun e w' => e = .returned (.bool true) ∧ Below w.heap.size w w' := by
  have E1 := Lib.hid (fun w => add_any a b w wa wb)
  have E2 := Lib.hid (fun w => radd_any a b w wa wb)
  have E3 := Lib.hid (fun w => less_any a b w wa wb)
  have E4 := Lib.hid (fun w => rless_any a b w wa wb)
  clear wa wb
  go_enter Try.func3, Try.ntmps3
  go_wp2_with (first
    | (go_at_call 7; refine (E1.out _).mono ?_; rintro e w' ⟨rfl, rfl⟩)
    | (go_at_call 8; refine (E2.out _).mono ?_; rintro e w' ⟨rfl, rfl⟩)
    | (go_at_call 9; refine (E3.out _).mono ?_; rintro e w' ⟨rfl, rfl⟩)
    | (go_at_call 10; refine (E4.out _).mono ?_; rintro e w' ⟨rfl, rfl⟩)
    | (go_at_call 11; refine (awake_any _).mono ?_; rintro e w' ⟨rfl, hb⟩))
  go_ret
  exact ⟨rfl, hb⟩

theorem all_walk (A : Option Addr) (c : Nat) (l : List Nat) (w : World) (hs : Sl w w.heap.size A (u64s l)) (hl : l.length ≤ maxLen) (hw : ∀ x ∈ l, x < 18446744073709551616) :
    Calls Try.prog 4 #[.slice A l.length c] w fun e w' => e = .returned (.bool true) ∧ Below w.heap.size w w' := by
  have E1 := Lib.hid (all_any A c w.heap.size l w hs hl hw)
  have E2 := Lib.hid (rall_any A c w.heap.size l w hs hl hw)
  clear hs hw
  unfold maxLen at hl
  by_cases h : 100 < l.length
  all_goals
    go_enter Try.func4, Try.ntmps4
    go_wp2_with (first
      | (go_at_call 12; refine (E1.out).mono ?_; rintro e w' ⟨rfl, rfl⟩)
      | (go_at_call 13; refine (E2.out).mono ?_; rintro e w' ⟨rfl, rfl⟩)
      | (go_at_call 11; refine (awake_any _).mono ?_; rintro e w' ⟨rfl, hb⟩))
    go_ret
    exact ⟨rfl, hb⟩

theorem split_walk_no (a : Nat) (n : Int) (w : World) (h : ¬ (a ≤ M ∧ 1 ≤ n ∧ n ≤ 256)) :
    Calls Try.prog 5 #[.int .u64 a, .int .i64 n] w fun e w' => e = .returned (.bool true) ∧ Below w.heap.size w w' := by
  have E1 := Lib.hid (fun w => split_none a n w h)
  have E2 := Lib.hid (fun w => rsplit_none a n w h)
  have E3 := Lib.hid (fun w => all_any none 0 0 [] w (Sl.none _ _ _) (by simp) (by simp))
  clear h
  go_enter Try.func5, Try.ntmps5
  go_wp2_with (first
    | (go_at_call 14; refine (E1.out _).mono ?_; rintro e w' ⟨rfl, rfl⟩)
    | (go_at_call 15; refine (E2.out _).mono ?_; rintro e w' ⟨rfl, rfl⟩))
  refine wp_loop_rounds 1 ?_
  rw [rounds_succ]
  go_wp2_with (first
    | (go_at_call 12; refine (E3.out _).mono ?_; rintro e w' ⟨rfl, rfl⟩)
    | (go_at_call 11; refine (awake_any _).mono ?_; rintro e w' ⟨rfl, hb⟩))
  go_ret
  exact ⟨rfl, hb⟩

theorem all_split (A : Option Addr) (c B a n : Nat) (w : World) (ha : a ≤ M) (h1 : 1 ≤ n) (h2 : n ≤ 256) (h : Sl w B A (spl a n n)) :
    Calls Try.prog 12 #[.slice A n c] w fun e w' => e = .returned (.tuple #[.int .u64 a, .int .i64 0]) ∧ w = w' := by
  rw [spl_u64s] at h
  have := all_any A c B (splN a n n) w h (by rw [splN_len]; unfold maxLen; omega) (splN_lt a n n ha)
  rw [splN_all a n ha h1, splN_len] at this
  exact this

theorem split_walk_yes (a n : Nat) (w : World) (ha : a ≤ M) (h1 : 1 ≤ n) (h2 : n ≤ 256) :
    Calls Try.prog 5 #[.int .u64 a, .int .i64 n] w fun e w' => e = .returned (.bool true) ∧ Below w.heap.size w w' := by
  have E1 := Lib.hid (fun w => split_any a n w ha h1 h2)
  have E2 := Lib.hid (fun w => rsplit_any a n w ha h1 h2)
  have E3 := Lib.hid (fun A c B w h => all_split A c B a n w ha h1 h2 h)
  clear ha
  go_enter Try.func5, Try.ntmps5
  go_wp2_with fail
  refine (E1.out _).mono ?_
  rintro e w1 ⟨rfl, ho1, hb1⟩
  go_wp2_with fail
  refine (E2.out _).mono ?_
  rintro e w2 ⟨v, rfl, ho2, hb2⟩
  obtain ⟨A, c, rfl, hs2, _⟩ := Sl.of_own ho2
  obtain ⟨g, cap, hv, hg, hg2⟩ := ho2.form (by omega)
  injection hv with hA hc
  subst hA
  have x1 := ho1.cellAt (w := w1)
  have hlt0 : w.heap.size < w1.heap.size := by
    obtain ⟨g', cap', hv', _, hlt'⟩ := ho1.form (by omega)
    injection hv' with hv'
    injection hv' with hv'
    injection hv' with hv'
    omega
  have f1 := Lib.hid (fun k hk => (hb2.cell (p := ⟨w.heap.size, k, none⟩) hlt0).trans (x1 k hk))
  have f2 := Lib.hid (fun k hk => ho2.cellAt (w := w2) k hk)
  have hs1 := Lib.hid (show Sl w2 w1.heap.size (some ⟨w.heap.size, 0, none⟩) (spl a n n) by
    obtain ⟨A, c, hv', h', _⟩ := Sl.of_own ho1
    injection hv' with hA _
    subst hA
    exact h'.below hb2)
  have hbb := Lib.hid (hb1.trans (hb2.mono hb1.size))
  clear x1 hs2 ho1 ho2 hb1 
  go_wp2_with fail
  go_loopw [7] (fun i wr => ∃ k m : Nat, k ≤ n ∧ i = .int .i64 k ∧ wr = w2.drewN m) (fun i _ => n - (intOf i).toNat)
  case atStart => exact ⟨0, 0, Nat.zero_le _, rfl, rfl⟩
  case round =>
    obtain ⟨k, m, hk, rfl, rfl⟩ := hrel
    by_cases hlt : k < n
    · have c1 := f1.out k (by omega)
      have c2 := f2.out k (by omega)
      have e : (spl a n n)[k]? = some (.int .u64 (sv a n k)) := by simp [spl, hlt]
      rw [e] at c1 c2
      clear e
      go_wp2_with fail
      go_quiet (fail)
      go_wp2_with fail
      go_roundw
      case rel => exact ⟨k + 1, _, by omega, by go_num, rfl⟩
      case measure => simp [intOf]; omega
    · obtain rfl : k = n := by omega
      go_wp2_with (first
        | (go_at_call 12; refine (E3.out _ _ w1.heap.size _ (Sl.keep (w' := w2.drewN m) hs1.out (fun _ _ => rfl))).mono ?_; rintro e w' ⟨rfl, rfl⟩)
        | (go_at_call 11; refine (awake_any _).mono ?_; rintro e w' ⟨rfl, hb⟩))
      go_ret
      exact ⟨rfl, hbb.out.trans ((Below.trans (b := w2.drewN m) ⟨rfl, rfl, rfl, Nat.le_refl _, fun _ _ => rfl⟩ (hb.mono (Nat.le_trans (Nat.le_of_lt hlt0) hb2.size))))⟩

theorem split_walk (a : Nat) (n : Int) (w : World) :
    Calls Try.prog 5 #[.int .u64 a, .int .i64 n] w fun e w' => e = .returned (.bool true) ∧ Below w.heap.size w w' := by
  by_cases h : a ≤ M ∧ 1 ≤ n ∧ n ≤ 256
  · obtain ⟨ha, h1, h2⟩ := h
    obtain ⟨m, rfl⟩ : ∃ m : Nat, n = m := ⟨n.toNat, by omega⟩
    exact split_walk_yes a m w ha (by omega) (by omega)
  · exact split_walk_no a n w h

theorem u64s_rev_take (l : List Nat) (k : Nat) (h : k < l.length) : u64s (l.reverse.take (l.length - k)) = u64s (l.reverse.take (l.length - (k + 1))) ++ [.int .u64 ((l[k] : Nat) : Int)] := by
  have e : l.length - k = (l.length - (k + 1)) + 1 := by omega
  rw [e, List.take_succ_eq_append_getElem (by simp; omega)]
  simp only [u64s, List.map_append, List.map_cons, List.map_nil]
  congr 3
  rw [List.getElem_reverse]
  congr 2
  omega

theorem rel_next {B : Nat} {w1 : World} {e : TypeId} {v' : Value} {l : List Nat} {k : Nat} (h : k < l.length)
    (h2 : w1.ownsRow B e 1 v' (l.length - (k + 1) + 1) (u64s (l.reverse.take (l.length - (k + 1))) ++ [.int .u64 ((l[k] : Nat) : Int)])) : w1.ownsRow B e 1 v' (l.length - k) (u64s (l.reverse.take (l.length - k))) := by
  rw [u64s_rev_take l k h, show l.length - k = l.length - (k + 1) + 1 by omega]
  exact h2

set_option maxRecDepth 100000 in
set_option maxHeartbeats 1600000 in
theorem back_walk (a b : Nat) (A : Option Addr) (c : Nat) (l : List Nat) (w : World) (wa : a < 18446744073709551616) (wb : b < 18446744073709551616)
    (hs : Sl w w.heap.size A (u64s l)) (hl : l.length ≤ maxLen) (hw : ∀ x ∈ l, x < 18446744073709551616) :
    Calls Try.prog 6 #[.int .u64 a, .int .u64 b, .slice A l.length c] w fun e w' => e = .returned (.bool true) ∧ Below w.heap.size w w' := by
  obtain ⟨i0, hi, hz0, hz1, hz2⟩ := info_parts info_u64
  have F1 := Lib.hid (fun (B : Nat) (w' : World) (h : Sl w' B A (u64s l)) => all_any A c B l w' h hl hw)
  have F2 := Lib.hid (fun (B : Nat) (w' : World) (A' : Option Addr) (c' : Nat) (h : Sl w' B A' (u64s l.reverse)) => all_any A' c' B l.reverse w' h (by simpa using hl) (by simpa using hw))
  unfold maxLen at hl
  by_cases h50 : 50 < l.length
  · clear wa wb hs hw
    go_enter Try.func6, Try.ntmps6
    go_wp2_with (go_at_call 11; refine (awake_any _).mono ?_; rintro e w' ⟨rfl, hb⟩)
    go_ret
    exact ⟨rfl, hb⟩
  · rw [allV_reverse, List.length_reverse] at F2
    generalize allV 0 l = R at F1 F2
    have HS := Lib.hid hs
    clear hs hw hl
    by_cases hab : a + b ≤ M
    · have E1 := Lib.hid (fun w => add_yes a b w hab)
      have E2 := Lib.hid (fun w => add_yes b a w (by omega))
      have E3 := Lib.hid (fun w => less_any (a + b) b w (by unfold M at hab; omega) wb)
      have e1 : lessV (a + b) b = a := by unfold lessV; rw [if_pos (by omega)]; omega
      have e2 : lessE (a + b) b = 0 := by unfold lessE; rw [if_pos (by omega), if_pos (by omega)]
      rw [e1, e2] at E3
      rw [Nat.add_comm b a] at E2
      obtain ⟨s, hs'⟩ : ∃ s, s = a + b := ⟨_, rfl⟩
      rw [← hs'] at E1 E2 E3
      clear hs' e1 e2 hab wa wb
      go_enter Try.func6, Try.ntmps6
      go_wp2_with (first
        | (go_at_call 7; ((with_reducible refine (E1.out _).mono ?_); rintro e w' ⟨rfl, rfl⟩))
        | (go_at_call 7; ((with_reducible refine (E2.out _).mono ?_); rintro e w' ⟨rfl, rfl⟩))
        | (go_at_call 9; ((with_reducible refine (E3.out _).mono ?_); rintro e w' ⟨rfl, rfl⟩)))
      go_loopw [13, 14] (fun v i wr => ∃ (k : Nat) (z : Int), k ≤ l.length ∧ z ≤ (k : Int) - 1 ∧ (k : Int) - 1 ≤ z ∧ i = .int .i64 z ∧ wr.ownsRow w.heap.size 22 1 v (l.length - k) (u64s (l.reverse.take (l.length - k))) ∧ Below w.heap.size w wr)
        (fun _ i _ => (intOf i + 1).toNat)
      case atStart => exact ⟨l.length, _, Nat.le_refl _, Int.le_refl _, Int.le_refl _, rfl, by rw [Nat.sub_self]; exact World.ownsRow_nil _ _ _ _, Below.refl _ _⟩
      case round =>
        obtain ⟨k, z, hk, hz1', hz2', rfl, hown, hb⟩ := hrel
        by_cases hz : 0 ≤ z
        · obtain ⟨j, rfl⟩ : ∃ j : Nat, z = j := ⟨z.toNat, by omega⟩
          obtain rfl : k = j + 1 := by omega
          obtain ⟨ad, rfl, hbl, hc⟩ := (HS.out.below hb).at (u64s_at l j (by omega))
          have hnx := Lib.hid (fun (w1 : World) (v' : Value) => rel_next (B := w.heap.size) (e := 22) (w1 := w1) (v' := v') (by omega : j < l.length))
          generalize hx : l[j] = x at *
          clear hx hz1' hz2' hz
          go_wp2_with (at_builtin; refine wpList_append_own _ rfl _ _ 30 rfl w.heap.size 22 i0 (.int .u64 0) 1 8 Try.underlying30 hi hz0 hz1 hz2 rfl (by decide) _ _ _ rfl (hown.alloc _) ⟨wr.heap.size, 0, none⟩ 1 1 [.int .u64 x] rfl rfl ?d1 ?d2 ?d3 ?d4 ?d5 ?_)
          case d1 => exact cell_one_new wr _ _
          case d2 => intro u hu; simp at hu; subst hu; rfl
          case d3 => unfold maxLen; omega
          case d4 => omega
          case d5 => exact Nat.le_trans hb.size (by simp)
          intro v' w1 hown' hgrow _
          have hg2 := hgrow_of hown hb (Nat.le_refl _) hgrow
          have ho2 := hnx.out w1 v' hown'
          clear hown' hgrow hown hb hnx
          go_wp2
          go_roundw
          case rel => exact ⟨j, (j : Int) - 1, by omega, Int.le_refl _, Int.le_refl _, rfl, ho2, hg2⟩
          case measure => simp [intOf] <;> omega
        · obtain rfl : k = 0 := by omega
          rw [Nat.sub_zero, List.take_of_length_le (by simp)] at hown
          obtain ⟨A', c', rfl, hs2, _⟩ := Sl.of_own hown
          have HS2 := Lib.hid hs2
          have HSr := Lib.hid (HS.out.below hb)
          clear hown hs2 hk hz1' hz2'
          go_wp2_with (first
            | (go_at_call 12; ((with_reducible refine (F1.out _ _ HSr.out).mono ?_); rintro e w' ⟨rfl, rfl⟩))
            | (go_at_call 12; ((with_reducible refine (F2.out _ _ _ _ HS2.out).mono ?_); rintro e w' ⟨rfl, rfl⟩))
            | (go_at_call 11; refine (awake_any _).mono ?_; rintro e w' ⟨rfl, hb3⟩))
          go_ret
          exact ⟨rfl, hb.trans (hb3.mono hb.size)⟩
    · have E1 := Lib.hid (fun w => add_no a b w wa wb hab)
      have E2 := Lib.hid (fun w => add_no b a w wb wa (by omega))
      clear hab wa wb
      go_enter Try.func6, Try.ntmps6
      go_wp2_with (first
        | (go_at_call 7; ((with_reducible refine (E1.out _).mono ?_); rintro e w' ⟨rfl, rfl⟩))
        | (go_at_call 7; ((with_reducible refine (E2.out _).mono ?_); rintro e w' ⟨rfl, rfl⟩)))
      go_loopw [13, 14] (fun v i wr => ∃ (k : Nat) (z : Int), k ≤ l.length ∧ z ≤ (k : Int) - 1 ∧ (k : Int) - 1 ≤ z ∧ i = .int .i64 z ∧ wr.ownsRow w.heap.size 22 1 v (l.length - k) (u64s (l.reverse.take (l.length - k))) ∧ Below w.heap.size w wr)
        (fun _ i _ => (intOf i + 1).toNat)
      case atStart => exact ⟨l.length, _, Nat.le_refl _, Int.le_refl _, Int.le_refl _, rfl, by rw [Nat.sub_self]; exact World.ownsRow_nil _ _ _ _, Below.refl _ _⟩
      case round =>
        obtain ⟨k, z, hk, hz1', hz2', rfl, hown, hb⟩ := hrel
        by_cases hz : 0 ≤ z
        · obtain ⟨j, rfl⟩ : ∃ j : Nat, z = j := ⟨z.toNat, by omega⟩
          obtain rfl : k = j + 1 := by omega
          obtain ⟨ad, rfl, hbl, hc⟩ := (HS.out.below hb).at (u64s_at l j (by omega))
          have hnx := Lib.hid (fun (w1 : World) (v' : Value) => rel_next (B := w.heap.size) (e := 22) (w1 := w1) (v' := v') (by omega : j < l.length))
          generalize hx : l[j] = x at *
          clear hx hz1' hz2' hz
          go_wp2_with (at_builtin; refine wpList_append_own _ rfl _ _ 30 rfl w.heap.size 22 i0 (.int .u64 0) 1 8 Try.underlying30 hi hz0 hz1 hz2 rfl (by decide) _ _ _ rfl (hown.alloc _) ⟨wr.heap.size, 0, none⟩ 1 1 [.int .u64 x] rfl rfl ?e1 ?e2 ?e3 ?e4 ?e5 ?_)
          case e1 => exact cell_one_new wr _ _
          case e2 => intro u hu; simp at hu; subst hu; rfl
          case e3 => unfold maxLen; omega
          case e4 => omega
          case e5 => exact Nat.le_trans hb.size (by simp)
          intro v' w1 hown' hgrow _
          have hg2 := hgrow_of hown hb (Nat.le_refl _) hgrow
          have ho2 := hnx.out w1 v' hown'
          clear hown' hgrow hown hb hnx
          go_wp2
          go_roundw
          case rel => exact ⟨j, (j : Int) - 1, by omega, Int.le_refl _, Int.le_refl _, rfl, ho2, hg2⟩
          case measure => simp [intOf] <;> omega
        · obtain rfl : k = 0 := by omega
          rw [Nat.sub_zero, List.take_of_length_le (by simp)] at hown
          obtain ⟨A', c', rfl, hs2, _⟩ := Sl.of_own hown
          have HS2 := Lib.hid hs2
          have HSr := Lib.hid (HS.out.below hb)
          clear hown hs2 hk hz1' hz2'
          go_wp2_with (first
            | (go_at_call 12; ((with_reducible refine (F1.out _ _ HSr.out).mono ?_); rintro e w' ⟨rfl, rfl⟩))
            | (go_at_call 12; ((with_reducible refine (F2.out _ _ _ _ HS2.out).mono ?_); rintro e w' ⟨rfl, rfl⟩))
            | (go_at_call 11; refine (awake_any _).mono ?_; rintro e w' ⟨rfl, hb3⟩))
          go_ret
          exact ⟨rfl, hb.trans (hb3.mono hb.size)⟩
end Go.Proofs.Ytfjhcamklopkmaa
