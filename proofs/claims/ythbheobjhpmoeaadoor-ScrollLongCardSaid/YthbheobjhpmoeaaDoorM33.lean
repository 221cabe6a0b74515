/- Merged: The document's Same: lists of texts compared. -/
import Derived.Test.YthbheobjhpmoeaaDoorM24
namespace Go.Proofs.YthbheobjhpmoeaaDoor
section
set_option linter.unusedVariables false
open Go.RowKit
set_option maxRecDepth 100000 in
theorem texts_next {ls ms : List (List B8)} {k : Nat} (hl : k < ls.length) (hm : k < ms.length) (h : ls.take k = ms.take k) (e : ls[k] = ms[k]) : ls.take (k + 1) = ms.take (k + 1) := by
  rw [List.take_succ_eq_append_getElem hl, List.take_succ_eq_append_getElem hm, h, e]
set_option maxRecDepth 100000 in
set_option maxHeartbeats 2000000 in
theorem rsame13_any (A A' : Option Addr) (c c' : Nat) (ls ms : List (List B8)) (w : World) (hx : Lst w A ls) (hy : Lst w A' ms) (hlx : ls.length ≤ 1000000) (hly : ms.length ≤ 1000000) (hbx : ∀ x ∈ ls, x.length ≤ maxLen) (hby : ∀ x ∈ ms, x.length ≤ maxLen) :
    Calls Tryd.prog 20 #[.slice A ls.length c, .slice A' ms.length c'] w fun e w' => e = .returned (.bool (decide (ls = ms))) ∧ ∃ n, w' = w.drewN n := by
  have HX := Lib.hid hx
  have HY := Lib.hid hy
  have HBX := Lib.hid hbx
  have HBY := Lib.hid hby
  clear hx hy hbx hby
  by_cases hl : ls.length = ms.length
  case neg =>
    have HD := Lib.hid (show decide (ls = ms) = false from decide_eq_false fun h => hl (by rw [h]))
    have hl2 : ((ls.length : Int) == (ms.length : Int)) = false := by rw [beq_eq_false_iff_ne]; omega
    go_enter Tryd.func20, Tryd.ntmps20
    go_wp2
    go_ret
    rw [HD.out]
    exact ⟨rfl, 0, rfl⟩
  have HL := Lib.hid hl
  have hl2 : ((ls.length : Int) == (ms.length : Int)) = true := by rw [beq_iff_eq]; omega
  clear hl
  go_enter Tryd.func20, Tryd.ntmps20
  go_wp2
  go_loopw [5] (fun i wr => ∃ k n : Nat, k ≤ ls.length ∧ i = .int .i64 (k : Int) ∧ ls.take k = ms.take k ∧ wr = w.drewN n) (fun i _ => ls.length - (intOf i).toNat)
  case atStart => exact ⟨0, 0, Nat.zero_le _, rfl, by simp, rfl⟩
  case round =>
    obtain ⟨k, n, hk, rfl, he, hwr⟩ := hrel
    have HE := Lib.hid he
    rw [hwr]
    clear he hwr wr
    by_cases hlt : k < ls.length
    · have hlt' : k < ms.length := by have := HL.out; omega
      obtain ⟨ad, Ai, ci, rfl, hc, hci, hb⟩ := HX.out k ls[k] (List.getElem?_eq_getElem hlt)
      obtain ⟨ad', Ai', ci', rfl, hc', hci', hb'⟩ := HY.out k ms[k] (List.getElem?_eq_getElem hlt')
      have hc1 : ∀ n, (w.drewN n).cell? (ad.add k) = some (.slice Ai ls[k].length ci) := fun n => hc
      have hc2 : ∀ n, (w.drewN n).cell? (ad'.add k) = some (.slice Ai' ms[k].length ci') := fun n => hc'
      have HT := Lib.hid (texts_next hlt hlt' HE.out)
      have HN := Lib.hid (show ls[k] ≠ ms[k] → decide (ls = ms) = false from fun h => by
        rw [decide_eq_false_iff_not]; intro e; subst e; exact h rfl)
      have HB := Lib.hid hb
      have HB' := Lib.hid hb'
      have h63 := HBX.out _ (List.getElem_mem hlt)
      have h63' := HBY.out _ (List.getElem_mem hlt')
      have LK := Lib.hid hlt
      have LK' := Lib.hid hlt'
      clear hc hc' hb hb'
      generalize ls[k] = xs at HT HN HB h63 hc1 hci ⊢
      generalize ms[k] = ys at HT HN HB' h63' hc2 hci' ⊢
      unfold maxLen at h63 h63'
      by_cases hxy : xs.length = ys.length
      case neg =>
        have q : ((xs.length : Int) == (ys.length : Int)) = false := by rw [beq_eq_false_iff_ne]; omega
        have HN2 := Lib.hid (HN.out (fun e => hxy (by rw [e])))
        clear HT HN hxy
        go_wp2
        go_quiet (fail)
        go_wp2
        go_ret
        rw [HN2.out]
        exact ⟨rfl, n + nq, World.drewN_drewN ..⟩
      have q : ((xs.length : Int) == (ys.length : Int)) = true := by rw [beq_iff_eq]; omega
      have HXY := Lib.hid hxy
      clear hxy
      go_wp2
      go_quiet (fail)
      go_wp2
      go_loopw [6] (fun j wr => ∃ m n : Nat, m ≤ xs.length ∧ j = .int .i64 (m : Int) ∧ xs.take m = ys.take m ∧ wr = w.drewN n) (fun j _ => xs.length - (intOf j).toNat)
      case atStart => exact ⟨0, n + nq, Nat.zero_le _, rfl, by simp, World.drewN_drewN ..⟩
      case round =>
        obtain ⟨m, n2, hm, rfl, he, hwr⟩ := hrel
        have HE2 := Lib.hid he
        rw [hwr]
        clear he hwr wr
        by_cases hlm : m < xs.length
        · have hlm' : m < ys.length := by have := HXY.out; omega
          obtain ⟨bd, rfl, hd⟩ := HB.out m (bv xs[m]) (bvs_at xs m hlm)
          obtain ⟨bd', rfl, hd'⟩ := HB'.out m (bv ys[m]) (bvs_at ys m hlm')
          have hd1 : ∀ n, (w.drewN n).cell? (bd.add m) = some (bv xs[m]) := fun n => hd
          have hd2 : ∀ n, (w.drewN n).cell? (bd'.add m) = some (bv ys[m]) := fun n => hd'
          have HT3 := Lib.hid (show xs[m] = ys[m] → xs.take (m + 1) = ys.take (m + 1) from fun h => by rw [List.take_succ_eq_append_getElem hlm, List.take_succ_eq_append_getElem hlm', HE2.out, h])
          have HN3 := Lib.hid (show xs[m] ≠ ys[m] → xs ≠ ys from fun h e => by subst e; exact h rfl)
          clear hd hd'
          generalize xs[m] = x at HT3 HN3 hd1 ⊢
          generalize ys[m] = y at HT3 HN3 hd2 ⊢
          unfold bv at hd1 hd2
          by_cases hxy : x = y
          · have q3 : ((x.toNat : Int) == (y.toNat : Int)) = true := by rw [hxy, beq_self_eq_true]
            have HT4 := Lib.hid (HT3.out hxy)
            clear HT3 HN3 hxy
            go_wp2
            go_quiet (fail)
            go_wp2
            go_roundw
            case rel => exact ⟨m + 1, n2 + nq, by omega, by go_num, HT4.out, rfl⟩
            case measure => simp [intOf]; omega
          · have q3 : ((x.toNat : Int) == (y.toNat : Int)) = false := by rw [beq_eq_false_iff_ne]; exact fun h => hxy (bv_inj.1 h)
            have HN4 := Lib.hid (HN.out (HN3.out hxy))
            clear HT3 HN3 hxy
            go_wp2
            go_quiet (fail)
            go_wp2
            go_ret
            rw [HN4.out]
            exact ⟨rfl, n2 + nq, World.drewN_drewN ..⟩
        · have hxy : xs = ys := by
            have h := HE2.out
            rw [List.take_of_length_le (by omega), List.take_of_length_le (by have := HXY.out; omega)] at h
            exact h
          have HT5 := Lib.hid (HT.out hxy)
          clear hxy
          go_wp2
          go_roundw
          case rel => exact ⟨k + 1, _, by have := LK.out; omega, by go_num, HT5.out, rfl⟩
          case measure => have := LK.out; simp [intOf]; omega
    · have HD : decide (ls = ms) = true := by
        have h := HE.out
        rw [List.take_of_length_le (by omega), List.take_of_length_le (by have := HL.out; omega)] at h
        exact decide_eq_true h
      have HD := Lib.hid HD
      go_wp2
      go_ret
      rw [HD.out]
      exact ⟨rfl, _, rfl⟩
end
end Go.Proofs.YthbheobjhpmoeaaDoor
