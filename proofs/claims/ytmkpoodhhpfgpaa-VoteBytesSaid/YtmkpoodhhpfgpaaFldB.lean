/- The contracts of bytes compared (the document's) and of bytes copied (the library's). -/
import Derived.Test.YtmkpoodhhpfgpaaFldA
import Derived.Deep.RegionLaw
namespace Go.Proofs.Ytmkpoodhhpfgpaa
open Go.RowKit
set_option maxRecDepth 100000 in
theorem drewN_add (w : World) (a b : Nat) : (w.drewN a).drewN b = w.drewN (a + b) := by simp [World.drewN, Nat.add_assoc]
set_option maxRecDepth 100000 in
/-- Bytes compared, as the document does. -/
theorem rbytes_any (A A' : Option Addr) (c c' B B' : Nat) (xs ys : List B8) (w : World) (hx : Sl w B A (xs.map bv)) (hy : Sl w B' A' (ys.map bv)) (hlx : xs.length ≤ maxLen) (hly : ys.length ≤ maxLen) :
    Calls Try.prog 23 #[.slice A xs.length c, .slice A' ys.length c'] w fun e w' => e = .returned (.bool (decide (xs = ys))) ∧ ∃ n, w' = w.drewN n := by
  unfold maxLen at hlx hly
  have HX := Lib.hid hx
  have HY := Lib.hid hy
  clear hx hy
  by_cases hl : xs.length = ys.length
  · have HL := Lib.hid hl
    go_enter Try.func23, Try.ntmps23
    go_wp2
    go_loopw [5] (fun i wr => ∃ k n : Nat, k ≤ xs.length ∧ i = .int .i64 k ∧ xs.take k = ys.take k ∧ wr = w.drewN n) (fun i _ => xs.length - (intOf i).toNat)
    case atStart => exact ⟨0, 0, Nat.zero_le _, rfl, by simp, rfl⟩
    case round =>
      obtain ⟨k, n, hk, rfl, he, rfl⟩ := hrel
      have HE := Lib.hid he
      clear he
      by_cases hlt : k < xs.length
      · have hlt' : k < ys.length := by omega
        obtain ⟨ad, rfl, _, hc⟩ := HX.out.at (bvs_at xs k hlt)
        obtain ⟨ad', rfl, _, hc'⟩ := HY.out.at (bvs_at ys k hlt')
        have hc1 : ∀ n, (w.drewN n).cell? (ad.add k) = some (bv xs[k]) := fun n => hc
        have hc2 : ∀ n, (w.drewN n).cell? (ad'.add k) = some (bv ys[k]) := fun n => hc'
        have HT := Lib.hid (show (xs[k] = ys[k]) → xs.take (k + 1) = ys.take (k + 1) from fun h => by rw [List.take_succ_eq_append_getElem hlt, List.take_succ_eq_append_getElem hlt', HE.out, h])
        have HN := Lib.hid (show ¬ (xs[k] = ys[k]) → decide (xs = ys) = false from fun h => by
          rw [decide_eq_false_iff_not]; intro e; subst e; exact h rfl)
        clear hc hc'
        generalize xs[k] = x at *
        generalize ys[k] = y at *
        unfold bv at hc1 hc2
        by_cases hxy : x = y
        · subst hxy
          have HT2 := Lib.hid (HT.out rfl)
          clear HT HN
          go_wp2
          go_quiet (fail)
          go_wp2
          go_roundw
          case rel => exact ⟨k + 1, _, by omega, by go_num, HT2.out, rfl⟩
          case measure => simp [intOf]; omega
        · have hne : ¬ ((x.toNat : Int) = (y.toNat : Int)) := fun h => hxy (bv_inj.1 h)
          have HN2 := Lib.hid (HN.out hxy)
          clear HT HN
          go_wp2
          go_quiet (fail)
          go_wp2
          go_ret
          rw [HN2.out]
          exact ⟨rfl, n + nq, drewN_add _ _ _⟩
      · have HD : decide (xs = ys) = true := by
          have h := HE.out
          rw [List.take_of_length_le (by omega), List.take_of_length_le (by omega)] at h
          exact decide_eq_true h
        have HD := Lib.hid HD
        go_wp2
        go_ret
        rw [HD.out]
        exact ⟨rfl, _, rfl⟩
  · have HD := Lib.hid (show decide (xs = ys) = false from decide_eq_false fun h => hl (by rw [h]))
    have hl2 : ¬ ((xs.length : Int) = (ys.length : Int)) := by omega
    go_enter Try.func23, Try.ntmps23
    go_wp2
    go_ret
    rw [HD.out]
    exact ⟨rfl, 0, rfl⟩
set_option maxRecDepth 100000 in
theorem clone_any (A : Option Addr) (c B : Nat) (xs : List B8) (w : World) (hx : Sl w B A (xs.map bv)) (hA : A = none → c = 0) (hc : xs.length ≤ c) (hlen : xs.length ≤ 1099511627776) :
    Calls Try.prog 41 #[.slice A xs.length c] w fun e w' => ∃ v, e = .returned v ∧ w'.ownsRow w.heap.size 5 1 v xs.length (xs.map bv) ∧ Turn (fun _ => False) w w' := by
  obtain ⟨i0, hi, hz0, hz1, hz2⟩ := info_parts info_u8
  cases A with
  | none =>
    obtain rfl := hA rfl
    obtain rfl : xs = [] := List.eq_nil_of_length_eq_zero (by omega)
    have heq : ∀ w, (binOp BinOp.eql 42 (.slice none 0 0) (.slice none 0 0)).run Try.prog w = .ok (.bool true) w := fun w => by kernel_rfl
    change Calls _ _ #[.slice none 0 0] _ _
    go_enter Try.func41, Try.ntmps41
    go_wp2
    go_ret
    exact ⟨_, rfl, World.ownsRow_nil _ _ _ _, Turn.refl _ _⟩
  | some ad =>
    have HX := Lib.hid hx
    clear hx
    have heq : ∀ w, (binOp BinOp.eql 42 (.slice (some ad) xs.length c) (.slice none 0 0)).run Try.prog w = .ok (.bool false) w := fun w => by kernel_rfl
    go_enter Try.func41, Try.ntmps41
    go_upto_region 3 with fail
    go_step
    iterate 6 go_step
    have ho := own_new w w.heap.size 5 [] 0 rfl (Nat.le_refl _) (by unfold maxLen; omega)
    have hb1 : Below w.heap.size w (w.alloc (.cells ([] : List Value).toArray 5)) := (Below.refl _ _).alloc (Nat.le_refl _) _
    refine wpList_append_any (o := ⟨some 7, _, _, _, _, _⟩) rfl _ _ 42 rfl w.heap.size 5 i0 (.int .u8 0) 1 Try.underlying42 hi hz0 hz1 hz2 rfl _ 0 _ rfl ho (some ad) xs.length c (xs.map bv) rfl hA (List.length_map ..) ?_ (bv_one xs) ?_ ?_ ?_ ?_
    · intro j u hu
      obtain ⟨ad', e, hb, hc⟩ := HX.out j u hu
      exact ⟨ad', e, (hb1.cell (World.block_lt_of_cell? w _ hc)).trans hc⟩
    · unfold maxLen; omega
    · omega
    · simp
    intro v' w' hown hgr
    go_wp2
    go_ret
    refine ⟨_, rfl, by simpa using hown, ((Turn.refl _ _).alloc _).grown hgr (fun i hi e => ?_)⟩
    injection e with e; simp at e; omega
end Go.Proofs.Ytmkpoodhhpfgpaa
