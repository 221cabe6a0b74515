/- Trees of digests as plain functions on lists of bytes: the root, a path, what a leaf climbs to. No program is named here. -/
import Derived.Test.YtppkjlmnnpfcfaaDoorShaPure
set_option linter.unusedVariables false
namespace Go.Proofs.YtppkjlmnnpfcfaaDoor
def longP (xs : List B8) : List B8 := wb (BitVec.ofNat 32 xs.length) ++ xs
def leafD (b : List B8) : List B8 := dig (1 :: longP b)
def nodeD (a b : List B8) : List B8 := dig (2 :: (longP a ++ longP b))
def hp (n : Nat) : Nat := 2 ^ Nat.log2 (n - 1)
theorem hp_pos (n : Nat) : 1 ≤ hp n := Nat.one_le_two_pow
theorem hp_lt {n : Nat} (h : 2 ≤ n) : hp n < n := by
  have := Nat.log2_self_le (n := n - 1) (by omega)
  unfold hp; omega
theorem hp_two {n : Nat} (h : 2 ≤ n) : n ≤ 2 * hp n := by
  have := Nat.lt_log2_self (n := n - 1)
  unfold hp
  rw [Nat.pow_succ] at this
  omega
/-- The document's way: a power of two that is less than n, twice which isn't. -/
theorem hp_uniq {n j : Nat} (h1 : 2 ^ j < n) (h2 : n ≤ 2 * 2 ^ j) : 2 ^ j = hp n := by
  unfold hp
  have h3 : Nat.log2 (n - 1) = j := by
    have hne : n - 1 ≠ 0 := by have := Nat.one_le_two_pow (n := j); omega
    refine (Nat.log2_eq_iff hne).2 ⟨by omega, ?_⟩
    rw [Nat.pow_succ]; omega
  rw [h3]
def rootD (ls : List (List B8)) : List B8 :=
  if h : 2 ≤ ls.length then nodeD (rootD (ls.take (hp ls.length))) (rootD (ls.drop (hp ls.length)))
  else match ls with
    | [] => dig [0]
    | x :: _ => leafD x
termination_by ls.length
decreasing_by
  · have := hp_lt h; simp; omega
  · have := hp_pos ls.length; simp; omega
theorem rootD_nil : rootD [] = dig [0] := by rw [rootD]; simp
theorem rootD_one (x : List B8) : rootD [x] = leafD x := by rw [rootD]; simp
theorem rootD_more {ls : List (List B8)} (h : 2 ≤ ls.length) : rootD ls = nodeD (rootD (ls.take (hp ls.length))) (rootD (ls.drop (hp ls.length))) := by
  conv => lhs; rw [rootD]
  rw [dif_pos h]
def pathD (ls : List (List B8)) (k : Nat) : List (List B8) :=
  if h : 2 ≤ ls.length ∧ k < ls.length then
    if k < hp ls.length then pathD (ls.take (hp ls.length)) k ++ [rootD (ls.drop (hp ls.length))]
    else pathD (ls.drop (hp ls.length)) (k - hp ls.length) ++ [rootD (ls.take (hp ls.length))]
  else []
termination_by ls.length
decreasing_by
  · have := hp_lt h.1; simp; omega
  · have := hp_pos ls.length; simp; omega
theorem pathD_none {ls : List (List B8)} {k : Nat} (h : ¬ (2 ≤ ls.length ∧ k < ls.length)) : pathD ls k = [] := by rw [pathD, dif_neg h]
theorem pathD_low {ls : List (List B8)} {k : Nat} (h : 2 ≤ ls.length) (hk : k < hp ls.length) : pathD ls k = pathD (ls.take (hp ls.length)) k ++ [rootD (ls.drop (hp ls.length))] := by
  conv => lhs; rw [pathD]
  rw [dif_pos ⟨h, by have := hp_lt h; omega⟩, if_pos hk]
theorem pathD_high {ls : List (List B8)} {k : Nat} (h : 2 ≤ ls.length) (hk : k < ls.length) (hk2 : ¬ k < hp ls.length) : pathD ls k = pathD (ls.drop (hp ls.length)) (k - hp ls.length) ++ [rootD (ls.take (hp ls.length))] := by
  conv => lhs; rw [pathD]
  rw [dif_pos ⟨h, hk⟩, if_neg hk2]
/-- What a leaf climbs to. -/
def climbD (leaf : List B8) (k n : Nat) (p : List (List B8)) : Option (List B8) :=
  if h : 2 ≤ n ∧ k < n ∧ n ≤ 1048576 then
    match p.getLast? with
    | none => none
    | some x => if k < hp n then (climbD leaf k (hp n) p.dropLast).map fun d => nodeD d x else (climbD leaf (k - hp n) (n - hp n) p.dropLast).map fun d => nodeD x d
  else if n = 1 ∧ k = 0 then (if p.length = 0 then some (leafD leaf) else none) else none
termination_by n
decreasing_by
  · exact hp_lt h.1
  · have := hp_pos n; omega
theorem climbD_bad {leaf : List B8} {k n : Nat} {p : List (List B8)} (h : ¬ (k < n ∧ n ≤ 1048576)) : climbD leaf k n p = none := by
  rw [climbD, dif_neg (by omega), if_neg (by omega)]
theorem climbD_one (leaf : List B8) (p : List (List B8)) : climbD leaf 0 1 p = if p.length = 0 then some (leafD leaf) else none := by
  rw [climbD, dif_neg (by omega), if_pos ⟨rfl, rfl⟩]
theorem climbD_nil {leaf : List B8} {k n : Nat} (h : 2 ≤ n) : climbD leaf k n [] = none := by
  rw [climbD]
  split
  · rfl
  · rw [if_neg (by omega)]
theorem climbD_low {leaf : List B8} {k n : Nat} {p : List (List B8)} {x : List B8} (h : 2 ≤ n) (hk : k < hp n) (hn : n ≤ 1048576) : climbD leaf k n (p ++ [x]) = (climbD leaf k (hp n) p).map fun d => nodeD d x := by
  conv => lhs; rw [climbD]
  rw [dif_pos ⟨h, by have := hp_lt h; omega, hn⟩]
  simp [hk]
theorem climbD_high {leaf : List B8} {k n : Nat} {p : List (List B8)} {x : List B8} (h : 2 ≤ n) (hk : k < n) (hk2 : ¬ k < hp n) (hn : n ≤ 1048576) : climbD leaf k n (p ++ [x]) = (climbD leaf (k - hp n) (n - hp n) p).map fun d => nodeD x d := by
  conv => lhs; rw [climbD]
  rw [dif_pos ⟨h, hk, hn⟩]
  simp [hk2]
/-- How long a path is. -/
def plenD (k n : Nat) : Nat :=
  if h : 2 ≤ n ∧ k < n then if k < hp n then plenD k (hp n) + 1 else plenD (k - hp n) (n - hp n) + 1 else 0
termination_by n
decreasing_by
  · exact hp_lt h.1
  · have := hp_pos n; omega
theorem climb_len : ∀ (n : Nat) (leaf : List B8) (k : Nat) (p : List (List B8)), climbD leaf k n p ≠ none → p.length = plenD k n := by
  intro n
  induction n using Nat.strongRecOn with
  | _ n ih =>
    intro leaf k p h
    rw [climbD] at h
    rw [plenD]
    split at h
    · rename_i h1
      rw [dif_pos ⟨h1.1, h1.2.1⟩]
      have hlt := hp_lt h1.1
      have hpos := hp_pos n
      rcases List.eq_nil_or_concat p with rfl | ⟨q, x, rfl⟩
      · simp at h
      · simp only [List.concat_eq_append, List.getLast?_append, List.getLast?_singleton, Option.some_or, List.dropLast_concat] at h
        split
        · rename_i hk
          rw [if_pos hk] at h
          have := ih (hp n) hlt leaf k q (by intro e; rw [e] at h; simp at h)
          simp [this]
        · rename_i hk
          rw [if_neg hk] at h
          have := ih (n - hp n) (by omega) leaf (k - hp n) q (by intro e; rw [e] at h; simp at h)
          simp [this]
    · rename_i h1
      split at h
      · rename_i h2
        rw [dif_neg (by omega)]
        split at h
        · assumption
        · exact absurd rfl h
      · exact absurd rfl h
theorem path_len : ∀ (N : Nat) (ls : List (List B8)) (k : Nat), ls.length ≤ N → (pathD ls k).length = plenD k ls.length := by
  intro N
  induction N with
  | zero => intro ls k h; rw [pathD_none (by omega), plenD, dif_neg (by omega)]; rfl
  | succ N ih =>
    intro ls k h
    by_cases h2 : 2 ≤ ls.length ∧ k < ls.length
    · have hlt := hp_lt h2.1
      have hpos := hp_pos ls.length
      rw [plenD, dif_pos h2]
      by_cases hk : k < hp ls.length
      · rw [if_pos hk, pathD_low h2.1 hk, List.length_append, ih _ _ (by simp; omega)]
        simp only [List.length_take, List.length_singleton]
        rw [Nat.min_eq_left (by omega)]
      · rw [if_neg hk, pathD_high h2.1 h2.2 hk, List.length_append, ih _ _ (by simp; omega)]
        simp
    · rw [pathD_none h2, plenD, dif_neg h2]; rfl
/-- P5.2: each leaf's path climbs to the root. -/
theorem climb_path : ∀ (N : Nat) (ls : List (List B8)) (k : Nat) (x : List B8), ls.length ≤ N → ls.length ≤ 1048576 → ls[k]? = some x → climbD x k ls.length (pathD ls k) = some (rootD ls) := by
  intro N
  induction N with
  | zero => intro ls k x h _ hx; have := (List.getElem?_eq_some_iff.1 hx).1; omega
  | succ N ih =>
    intro ls k x h hm hx
    have hk := (List.getElem?_eq_some_iff.1 hx).1
    by_cases h2 : 2 ≤ ls.length
    · have hlt := hp_lt h2
      have hpos := hp_pos ls.length
      rw [rootD_more h2]
      by_cases hk2 : k < hp ls.length
      · rw [pathD_low h2 hk2, climbD_low h2 hk2 hm]
        have := ih (ls.take (hp ls.length)) k x (by simp; omega) (by simp; omega) (by rw [List.getElem?_take, if_pos hk2]; exact hx)
        rw [List.length_take, Nat.min_eq_left (by omega)] at this
        rw [this]; rfl
      · rw [pathD_high h2 hk hk2, climbD_high h2 hk hk2 hm]
        have := ih (ls.drop (hp ls.length)) (k - hp ls.length) x (by simp; omega) (by simp; omega) (by rw [List.getElem?_drop, show hp ls.length + (k - hp ls.length) = k by omega]; exact hx)
        rw [List.length_drop] at this
        rw [this]; rfl
    · match ls, hx with
      | [y], hx =>
        have : k = 0 := by simp at hk; omega
        subst this
        obtain rfl : y = x := by simpa using hx
        rw [pathD_none (by simp), rootD_one]
        exact climbD_one _ _
      | [], hx => simp at hk
      | _ :: _ :: _, _ => simp at h2
end Go.Proofs.YtppkjlmnnpfcfaaDoor
