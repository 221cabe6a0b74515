/- The document's prime and power. -/
import Derived.Test.YtoafgpoiikpcfaaDoorRows
import Derived.Test.YtoafgpoiikpcfaaDoorShaC1
import Derived.WalkKit
import Derived.WalkLawsBesides
import Derived.Lib.Hide
import Derived.LoopTactic
import Derived.Outline
import Derived.Deep.QuietTactic
import Derived.BigQuiet
import Derived.IntWalk
import Derived.Laws.OwnMore
import Derived.OwnWalk
set_option linter.unusedVariables false
namespace Go.Proofs.YtoafgpoiikpcfaaDoor
open Go.RowKit
theorem noDiv_end {n m d : Nat} (h : ¬ d * d ≤ n) : noDiv n m d = true := by
  cases m with
  | zero => rfl
  | succ m => rw [noDiv, if_neg h]
set_option maxRecDepth 10000 in
theorem prime_any (n : Nat) (w : World) (hn : n ≤ 1000) : Calls Tryd.prog 13 #[.int .i64 (n : Int)] w fun e w' => e = .returned (.bool (primeN n)) ∧ w' = w := by
  go_enter Tryd.func13, Tryd.ntmps13
  go_wp2
  go_loopw [3] (fun i wr => ∃ m d : Nat, m + d = n + 2 ∧ 2 ≤ d ∧ noDiv n m d = noDiv n n 2 ∧ i = .int .i64 (d : Int) ∧ wr = w) (fun i _ => n + 2 - (intOf i).toNat)
  case atStart => exact ⟨n, 2, rfl, by omega, rfl, rfl, rfl⟩
  case round =>
    obtain ⟨m, d, hmd, hd, hnd, rfl, rfl⟩ := hrel
    have hdd : d * d ≤ 1002 * 1002 := Nat.mul_le_mul (by omega) (by omega)
    obtain ⟨q, hq⟩ : ∃ q, q = d * d := ⟨_, rfl⟩
    have hm : (d : Int) * (d : Int) = (q : Int) := by rw [hq, Int.natCast_mul]
    have hq1 : q ≤ 1004004 := by omega
    by_cases hle : q ≤ n
    · have hdn : d ≤ n := by
        have : d * 1 ≤ d * d := Nat.mul_le_mul_left _ (by omega)
        omega
      obtain ⟨m', rfl⟩ : ∃ m', m = m' + 1 := ⟨m - 1, by omega⟩
      rw [noDiv, if_pos (by rw [← hq]; exact hle)] at hnd
      have t0 : decide ((d : Int) * (d : Int) ≤ (n : Int)) = true := by rw [decide_eq_true_eq, hm]; omega
      have ht : (n : Int).tmod (d : Int) = ((n % d : Nat) : Int) := by rw [Int.tmod_eq_emod_of_nonneg (by omega)]; rfl
      by_cases hz : n % d = 0
      · rw [if_pos hz] at hnd
        have t1 : (((n % d : Nat) : Int) == 0) = true := by rw [beq_iff_eq]; omega
        have HP := Lib.hid (show primeN n = false by unfold primeN; rw [← hnd]; rfl)
        clear hq hnd hm
        go_wp2
        go_ret
        rw [HP.out]
        exact ⟨rfl, by trivial⟩
      · rw [if_neg hz] at hnd
        have t1 : (((n % d : Nat) : Int) == 0) = false := beq_false_of_ne (by omega)
        have HN := Lib.hid hnd
        clear hq hnd hm
        go_wp2
        go_roundw
        case rel => exact ⟨m', d + 1, by omega, by omega, HN.out, by go_num, by trivial⟩
        case measure => simp [intOf]; omega
    · have t0 : decide ((d : Int) * (d : Int) ≤ (n : Int)) = false := by rw [decide_eq_false_iff_not, hm]; omega
      have HP := Lib.hid (show primeN n = decide ((1 : Int) < (n : Int)) by
        unfold primeN; rw [← hnd, noDiv_end (by rw [← hq]; exact hle), Bool.true_and]
        by_cases h1 : 1 < n
        · rw [decide_eq_true h1, decide_eq_true (by omega)]
        · rw [decide_eq_false h1, decide_eq_false (by omega)])
      clear hq hnd hm
      go_wp2
      go_ret
      rw [HP.out]
      exact ⟨rfl, by trivial⟩
theorem power_any (n k : Nat) (w : World) (hn : n ≤ 1000) (hk : k ≤ 3) : Calls Tryd.prog 17 #[.int .i64 (n : Int), .int .i64 (k : Int)] w fun e w' => e = .returned (.int .i64 ((n ^ k : Nat) : Int)) ∧ w' = w := by
  go_enter Tryd.func17, Tryd.ntmps17
  go_wp2
  go_loopw [5, 6] (fun v i wr => ∃ j : Nat, j ≤ k ∧ i = .int .i64 (j : Int) ∧ v = .int .i64 ((n ^ j : Nat) : Int) ∧ wr = w) (fun _ i _ => k - (intOf i).toNat)
  case atStart => exact ⟨0, by omega, rfl, rfl, rfl⟩
  case round =>
    obtain ⟨j, hj, rfl, rfl, rfl⟩ := hrel
    by_cases hlt : j < k
    · have hb : n ^ (j + 1) ≤ 1000 ^ 3 := Nat.le_trans (Nat.pow_le_pow_left hn _) (Nat.pow_le_pow_right (by decide) (by omega))
      have HS := Lib.hid (Nat.pow_succ (n := n) (m := j))
      obtain ⟨v, hv⟩ : ∃ v, v = n ^ j := ⟨_, rfl⟩
      obtain ⟨q, hq⟩ : ∃ q, q = n ^ (j + 1) := ⟨_, rfl⟩
      rw [← hq] at hb
      have hw : wrap64 ((v : Int) * (n : Int)) = (q : Int) := by
        rw [hq, hv, HS.out, ← Int.natCast_mul]
        rw [hq, HS.out] at hb
        generalize n ^ j * n = z at *
        unfold wrap64; omega
      have t0 : decide ((j : Int) < (k : Int)) = true := by rw [decide_eq_true_eq]; omega
      rw [← hv]
      have HQ := Lib.hid hq
      clear hv hq
      go_wp2
      go_roundw
      case rel => exact ⟨j + 1, by omega, by go_num, by rw [← HQ.out, hw], by trivial⟩
      case measure => simp [intOf]; omega
    · obtain rfl : j = k := by omega
      have t0 : decide ((j : Int) < (j : Int)) = false := by rw [decide_eq_false_iff_not]; omega
      obtain ⟨v, hv⟩ : ∃ v, v = n ^ j := ⟨_, rfl⟩
      rw [← hv]
      have HV := Lib.hid hv
      clear hv
      go_wp2
      go_ret
      exact ⟨by rw [← HV.out]; rfl, by trivial⟩
def uv64 (n : Nat) : Value := .int .u64 (n : Int)
/-- Numbers that lie in a slice. -/
def Nms (w : World) (A : Option Addr) (xs : List Nat) : Prop := ∀ (j : Nat) (u : Value), (xs.map uv64)[j]? = some u → ∃ ad, A = some ad ∧ w.cell? (ad.add j) = some u
theorem Nms.below {w w' : World} {A : Option Addr} {xs : List Nat} (h : Nms w A xs) (hb : Below w.heap.size w w') : Nms w' A xs := fun j u hu => by
  obtain ⟨ad, e, hc⟩ := h j u hu
  exact ⟨ad, e, (hb.cell (World.block_lt_of_cell? w _ hc)).trans hc⟩
theorem nms_own {w : World} {B n : Nat} {A : Option Addr} {c : Nat} {l : List Nat} (h : w.ownsRow B 37 1 (.slice A n c) n (l.map uv64)) : Nms w A l := fun j u hu => by
  rcases h.2 with ⟨e, h0⟩ | ⟨g, cap, cur, e, -⟩
  · exfalso
    have h1 := h.1
    have h2 := (List.getElem?_eq_some_iff.1 hu).1
    omega
  · injection e with e1 e2 e3
    subst e1
    exact ⟨_, rfl, h.cells rfl j u hu⟩
theorem digit_any (A : Option Addr) (c i : Nat) (xs : List Nat) (w : World) (hX : Nms w A xs) (hl : xs.length ≤ 1000) (hi : i ≤ 1000) : Calls Tryd.prog 23 #[.slice A xs.length c, .int .i64 (i : Int)] w fun e w' => e = .returned (uv64 (xs.getD i 0)) ∧ w' = w := by
  unfold uv64
  by_cases hlt : i < xs.length
  · have hx : xs[i]? = some (xs.getD i 0) := by rw [List.getD_eq_getElem?_getD, List.getElem?_eq_getElem hlt]; rfl
    obtain ⟨ad, rfl, hc⟩ := hX i (uv64 (xs.getD i 0)) (by rw [List.getElem?_map, hx]; rfl)
    unfold uv64 at hc
    generalize xs.getD i 0 = x at *
    clear hx hX
    go_enter Tryd.func23, Tryd.ntmps23
    go_wp2
    go_ret
    exact ⟨rfl, rfl⟩
  · have hx : xs.getD i 0 = 0 := by rw [List.getD_eq_getElem?_getD, List.getElem?_eq_none (by omega)]; rfl
    rw [hx]
    have t0 : decide ((i : Int) < (xs.length : Int)) = false := by rw [decide_eq_false_iff_not]; omega
    clear hx hX
    go_enter Tryd.func23, Tryd.ntmps23
    go_wp2
    go_ret
    exact ⟨rfl, rfl⟩
end Go.Proofs.YtoafgpoiikpcfaaDoor
