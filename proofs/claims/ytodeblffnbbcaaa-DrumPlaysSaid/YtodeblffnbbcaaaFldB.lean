/- The contracts of bytes compared (the document's) and of bytes copied (the library's). -/
import Derived.Test.YtodeblffnbbcaaaFldA
import Derived.Deep.RegionLaw
namespace Go.Proofs.Ytodeblffnbbcaaa
open Go.RowKit
theorem drewN_add (w : World) (a b : Nat) : (w.drewN a).drewN b = w.drewN (a + b) := by simp [World.drewN, Nat.add_assoc]
/-- Bytes compared, as the document does. -/
theorem rbytes_any (A A' : Option Addr) (c c' B B' : Nat) (xs ys : List B8) (w : World) (hx : Sl w B A (xs.map bv)) (hy : Sl w B' A' (ys.map bv)) (hlx : xs.length ≤ maxLen) (hly : ys.length ≤ maxLen) :
    Calls Try.prog 20 #[.slice A xs.length c, .slice A' ys.length c'] w fun e w' => e = .returned (.bool (decide (xs = ys))) ∧ ∃ n, w' = w.drewN n := by
  unfold maxLen at hlx hly
  have HX := Lib.hid hx
  have HY := Lib.hid hy
  clear hx hy
  by_cases hl : xs.length = ys.length
  · have HL := Lib.hid hl
    go_enter Try.func20, Try.ntmps20
    go_wp2
    go_loopw [5] (fun i wr => ∃ k n : Nat, k ≤ xs.length ∧ i = .int .i64 k ∧ xs.take k = ys.take k ∧ wr = w.drewN n) (fun i _ => xs.length - (intOf i).toNat)
    case atStart => exact ⟨0, 0, Nat.zero_le _, rfl, by simp, rfl⟩
    case round =>
      obtain ⟨k, n, hk, rfl, he, rfl⟩ := hrel
      have HE := Lib.hid he
      clear he
      by_cases hlt : k < xs.length
      · have hlt' : k < ys.length := by omega
        obtain ⟨ad, rfl, _, hc⟩ := HX.out.at (bvs_at xs k hlt)
        obtain ⟨ad', rfl, _, hc'⟩ := HY.out.at (bvs_at ys k hlt')
        have hc1 : ∀ n, (w.drewN n).cell? (ad.add k) = some (bv xs[k]) := fun n => hc
        have hc2 : ∀ n, (w.drewN n).cell? (ad'.add k) = some (bv ys[k]) := fun n => hc'
        have HT := Lib.hid (show (xs[k] = ys[k]) → xs.take (k + 1) = ys.take (k + 1) from fun h => by rw [List.take_succ_eq_append_getElem hlt, List.take_succ_eq_append_getElem hlt', HE.out, h])
        have HN := Lib.hid (show ¬ (xs[k] = ys[k]) → decide (xs = ys) = false from fun h => by
          rw [decide_eq_false_iff_not]; intro e; subst e; exact h rfl)
        clear hc hc'
        generalize xs[k] = x at *
        generalize ys[k] = y at *
        unfold bv at hc1 hc2
        by_cases hxy : x = y
        · subst hxy
          have HT2 := Lib.hid (HT.out rfl)
          clear HT HN
          go_wp2
          go_quiet (fail)
          go_wp2
          go_roundw
          case rel => exact ⟨k + 1, _, by omega, by go_num, HT2.out, rfl⟩
          case measure => simp [intOf]; omega
        · have hne : ¬ ((x.toNat : Int) = (y.toNat : Int)) := fun h => hxy (bv_inj.1 h)
          have HN2 := Lib.hid (HN.out hxy)
          clear HT HN
          go_wp2
          go_quiet (fail)
          go_wp2
          go_ret
          rw [HN2.out]
          exact ⟨rfl, n + nq, drewN_add _ _ _⟩
      · have HD : decide (xs = ys) = true := by
          have h := HE.out
          rw [List.take_of_length_le (by omega), List.take_of_length_le (by omega)] at h
          exact decide_eq_true h
        have HD := Lib.hid HD
        go_wp2
        go_ret
        rw [HD.out]
        exact ⟨rfl, _, rfl⟩
  · have HD := Lib.hid (show decide (xs = ys) = false from decide_eq_false fun h => hl (by rw [h]))
    have hl2 : ¬ ((xs.length : Int) = (ys.length : Int)) := by omega
    go_enter Try.func20, Try.ntmps20
    go_wp2
    go_ret
    rw [HD.out]
    exact ⟨rfl, 0, rfl⟩
end Go.Proofs.Ytodeblffnbbcaaa
