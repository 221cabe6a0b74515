/- Merged: Merged: Trees of digests as plain functions on lists of bytes: the root, a path, what a leaf climbs to. No program is named here. math/bits.Len64, Len; how many of n leaves stand below the first half. The digests of a leaf and of two roots: the code's. The code's Root. The document's small functions of layer 5: half, a digest as bytes. The document's Leaf and Node. The document's Node. The document's Root. -/
import Derived.Test.YthoaaieiiokcmaaGreatDoorM00
import Derived.Test.YthoaaieiiokcmaaGreatDoorM01
import Derived.Test.YthoaaieiiokcmaaGreatDoorM04
import Derived.Test.YthoaaieiiokcmaaGreatDoorM03
import Derived.Lib.Tables
import Derived.Lib.BitFns
import Derived.Test.YthoaaieiiokcmaaGreatDoorM08
import Derived.Test.YthoaaieiiokcmaaGreatDoorM05
import Derived.Test.YthoaaieiiokcmaaGreatDoorM09
namespace Go.Proofs.YthoaaieiiokcmaaGreatDoor
section

section
set_option linter.unusedVariables false

def longP (xs : List B8) : List B8 := wb (BitVec.ofNat 32 xs.length) ++ xs
def leafD (b : List B8) : List B8 := dig (1 :: longP b)
def nodeD (a b : List B8) : List B8 := dig (2 :: (longP a ++ longP b))
def hp (n : Nat) : Nat := 2 ^ Nat.log2 (n - 1)
theorem hp_pos (n : Nat) : 1 ≤ hp n := Nat.one_le_two_pow
theorem hp_lt {n : Nat} (h : 2 ≤ n) : hp n < n := by
  have := Nat.log2_self_le (n := n - 1) (by omega)
  unfold hp; omega
/-- The document's way: a power of two that is less than n, twice which isn't. -/
theorem hp_uniq {n j : Nat} (h1 : 2 ^ j < n) (h2 : n ≤ 2 * 2 ^ j) : 2 ^ j = hp n := by
  unfold hp
  have h3 : Nat.log2 (n - 1) = j := by
    have hne : n - 1 ≠ 0 := by have := Nat.one_le_two_pow (n := j); omega
    refine (Nat.log2_eq_iff hne).2 ⟨by omega, ?_⟩
    rw [Nat.pow_succ]; omega
  rw [h3]
def rootD (ls : List (List B8)) : List B8 :=
  if h : 2 ≤ ls.length then nodeD (rootD (ls.take (hp ls.length))) (rootD (ls.drop (hp ls.length)))
  else match ls with
    | [] => dig [0]
    | x :: _ => leafD x
termination_by ls.length
decreasing_by
  · have := hp_lt h; simp; omega
  · have := hp_pos ls.length; simp; omega
theorem rootD_nil : rootD [] = dig [0] := by rw [rootD]; simp
theorem rootD_one (x : List B8) : rootD [x] = leafD x := by rw [rootD]; simp
theorem rootD_more {ls : List (List B8)} (h : 2 ≤ ls.length) : rootD ls = nodeD (rootD (ls.take (hp ls.length))) (rootD (ls.drop (hp ls.length))) := by
  conv => lhs; rw [rootD]
  rw [dif_pos h]
def pathD (ls : List (List B8)) (k : Nat) : List (List B8) :=
  if h : 2 ≤ ls.length ∧ k < ls.length then
    if k < hp ls.length then pathD (ls.take (hp ls.length)) k ++ [rootD (ls.drop (hp ls.length))]
    else pathD (ls.drop (hp ls.length)) (k - hp ls.length) ++ [rootD (ls.take (hp ls.length))]
  else []
termination_by ls.length
decreasing_by
  · have := hp_lt h.1; simp; omega
  · have := hp_pos ls.length; simp; omega
theorem pathD_none {ls : List (List B8)} {k : Nat} (h : ¬ (2 ≤ ls.length ∧ k < ls.length)) : pathD ls k = [] := by rw [pathD, dif_neg h]
theorem pathD_low {ls : List (List B8)} {k : Nat} (h : 2 ≤ ls.length) (hk : k < hp ls.length) : pathD ls k = pathD (ls.take (hp ls.length)) k ++ [rootD (ls.drop (hp ls.length))] := by
  conv => lhs; rw [pathD]
  rw [dif_pos ⟨h, by have := hp_lt h; omega⟩, if_pos hk]
theorem pathD_high {ls : List (List B8)} {k : Nat} (h : 2 ≤ ls.length) (hk : k < ls.length) (hk2 : ¬ k < hp ls.length) : pathD ls k = pathD (ls.drop (hp ls.length)) (k - hp ls.length) ++ [rootD (ls.take (hp ls.length))] := by
  conv => lhs; rw [pathD]
  rw [dif_pos ⟨h, hk⟩, if_neg hk2]
/-- What a leaf climbs to. -/
def climbD (leaf : List B8) (k n : Nat) (p : List (List B8)) : Option (List B8) :=
  if h : 2 ≤ n ∧ k < n ∧ n ≤ 1048576 then
    match p.getLast? with
    | none => none
    | some x => if k < hp n then (climbD leaf k (hp n) p.dropLast).map fun d => nodeD d x else (climbD leaf (k - hp n) (n - hp n) p.dropLast).map fun d => nodeD x d
  else if n = 1 ∧ k = 0 then (if p.length = 0 then some (leafD leaf) else none) else none
termination_by n
decreasing_by
  · exact hp_lt h.1
  · have := hp_pos n; omega
theorem climbD_one (leaf : List B8) (p : List (List B8)) : climbD leaf 0 1 p = if p.length = 0 then some (leafD leaf) else none := by
  rw [climbD, dif_neg (by omega), if_pos ⟨rfl, rfl⟩]
theorem climbD_nil {leaf : List B8} {k n : Nat} (h : 2 ≤ n) : climbD leaf k n [] = none := by
  rw [climbD]
  split
  · rfl
  · rw [if_neg (by omega)]
theorem climbD_low {leaf : List B8} {k n : Nat} {p : List (List B8)} {x : List B8} (h : 2 ≤ n) (hk : k < hp n) (hn : n ≤ 1048576) : climbD leaf k n (p ++ [x]) = (climbD leaf k (hp n) p).map fun d => nodeD d x := by
  conv => lhs; rw [climbD]
  rw [dif_pos ⟨h, by have := hp_lt h; omega, hn⟩]
  simp [hk]
theorem climbD_high {leaf : List B8} {k n : Nat} {p : List (List B8)} {x : List B8} (h : 2 ≤ n) (hk : k < n) (hk2 : ¬ k < hp n) (hn : n ≤ 1048576) : climbD leaf k n (p ++ [x]) = (climbD leaf (k - hp n) (n - hp n) p).map fun d => nodeD x d := by
  conv => lhs; rw [climbD]
  rw [dif_pos ⟨h, hk, hn⟩]
  simp [hk2]
/-- How long a path is. -/
def plenD (k n : Nat) : Nat :=
  if h : 2 ≤ n ∧ k < n then if k < hp n then plenD k (hp n) + 1 else plenD (k - hp n) (n - hp n) + 1 else 0
termination_by n
decreasing_by
  · exact hp_lt h.1
  · have := hp_pos n; omega
theorem climb_len : ∀ (n : Nat) (leaf : List B8) (k : Nat) (p : List (List B8)), climbD leaf k n p ≠ none → p.length = plenD k n := by
  intro n
  induction n using Nat.strongRecOn with
  | _ n ih =>
    intro leaf k p h
    rw [climbD] at h
    rw [plenD]
    split at h
    · rename_i h1
      rw [dif_pos ⟨h1.1, h1.2.1⟩]
      have hlt := hp_lt h1.1
      have hpos := hp_pos n
      rcases List.eq_nil_or_concat p with rfl | ⟨q, x, rfl⟩
      · simp at h
      · simp only [List.concat_eq_append, List.getLast?_append, List.getLast?_singleton, Option.some_or, List.dropLast_concat] at h
        split
        · rename_i hk
          rw [if_pos hk] at h
          have := ih (hp n) hlt leaf k q (by intro e; rw [e] at h; simp at h)
          simp [this]
        · rename_i hk
          rw [if_neg hk] at h
          have := ih (n - hp n) (by omega) leaf (k - hp n) q (by intro e; rw [e] at h; simp at h)
          simp [this]
    · rename_i h1
      split at h
      · rename_i h2
        rw [dif_neg (by omega)]
        split at h
        · assumption
        · exact absurd rfl h
      · exact absurd rfl h
/-- P5.2: each leaf's path climbs to the root. -/
theorem climb_path : ∀ (N : Nat) (ls : List (List B8)) (k : Nat) (x : List B8), ls.length ≤ N → ls.length ≤ 1048576 → ls[k]? = some x → climbD x k ls.length (pathD ls k) = some (rootD ls) := by
  intro N
  induction N with
  | zero => intro ls k x h _ hx; have := (List.getElem?_eq_some_iff.1 hx).1; omega
  | succ N ih =>
    intro ls k x h hm hx
    have hk := (List.getElem?_eq_some_iff.1 hx).1
    by_cases h2 : 2 ≤ ls.length
    · have hlt := hp_lt h2
      have hpos := hp_pos ls.length
      rw [rootD_more h2]
      by_cases hk2 : k < hp ls.length
      · rw [pathD_low h2 hk2, climbD_low h2 hk2 hm]
        have := ih (ls.take (hp ls.length)) k x (by simp; omega) (by simp; omega) (by rw [List.getElem?_take, if_pos hk2]; exact hx)
        rw [List.length_take, Nat.min_eq_left (by omega)] at this
        rw [this]; rfl
      · rw [pathD_high h2 hk hk2, climbD_high h2 hk hk2 hm]
        have := ih (ls.drop (hp ls.length)) (k - hp ls.length) x (by simp; omega) (by simp; omega) (by rw [List.getElem?_drop, show hp ls.length + (k - hp ls.length) = k by omega]; exact hx)
        rw [List.length_drop] at this
        rw [this]; rfl
    · match ls, hx with
      | [y], hx =>
        have : k = 0 := by simp at hk; omega
        subst this
        obtain rfl : y = x := by simpa using hx
        rw [pathD_none (by simp), rootD_one]
        exact climbD_one _ _
      | [], hx => simp at hk
      | _ :: _ :: _, _ => simp at h2

end
section
set_option linter.unusedVariables false

open Go.RowKit
set_option maxRecDepth 100000 in
theorem log2_len (x : Nat) (h : 1 ≤ x) (hx : x < 18446744073709551616) : Lib.bitLen x = Nat.log2 x + 1 := by
  induction x using Nat.strongRecOn with
  | _ x ih =>
    rw [Lib.bitLen_half x (by omega) hx]
    by_cases h1 : x < 2
    · obtain rfl : x = 1 := by omega
      decide
    · rw [ih (x / 2) (by omega) (by omega) (by omega)]
      conv => rhs; rw [Nat.log2_def, if_pos (by omega)]
      omega
set_option maxRecDepth 10000 in
theorem len64_tr (n : Nat) (w : World) (h1 : 1 ≤ n) (h : n < 16777216) : Calls Tryz.prog 59 #[.int .u64 (n : Int)] w fun e w' => e = .returned (.int .i64 ((Nat.log2 n + 1 : Nat) : Int)) ∧ w' = w := by
  rw [← log2_len n h1 (by omega)]
  go_enter Tryz.func59, Tryz.ntmps59
  generalize hx : (ByteArray.mk (List.toArray (List.append (List.append _ _) (List.append _ _)))) = tab
  have ht : tab = Lib.len8tab := by rw [← hx]; kernel_rfl
  have HI : ∀ m : Int, 0 ≤ m → m ≤ 255 → (Instr.index 9 (.string tab) (.int .u8 m)).run Tryz.prog w = .ok (.int .u8 (Lib.bitLen m.toNat : Int)) w := fun m h0 h1 => by
    rw [ht, Lib.run_index_len8tab w 9 .u8 m Tryz.underlying9 h0 h1, Lib.len8_of m h0 h1]
  have HT := Lib.hid hx
  clear hx ht HT
  have t1 : decide ((4294967296 : Int) ≤ (n : Int)) = false := by rw [decide_eq_false_iff_not]; omega
  by_cases h3 : n < 65536
  · have t2 : decide ((65536 : Int) ≤ (n : Int)) = false := by rw [decide_eq_false_iff_not]; omega
    by_cases h2 : n < 256
    · have t3 : decide ((256 : Int) ≤ (n : Int)) = false := by rw [decide_eq_false_iff_not]; omega
      have hi := HI (n : Int) (by omega) (by omega)
      have hb := Lib.bitLen_le8' (n : Int) (by omega) (by omega)
      simp only [Int.toNat_natCast] at hi hb
      clear HI
      go_wp2
      go_ret
      exact ⟨rfl, rfl⟩
    · have t3 : decide ((256 : Int) ≤ (n : Int)) = true := by rw [decide_eq_true_eq]; omega
      have hi := HI ((n : Int) / 256) (by omega) (by omega)
      have hb := Lib.bitLen_le8' ((n : Int) / 256) (by omega) (by omega)
      have e : ((n : Int) / 256).toNat = n / 256 := by omega
      rw [e] at hi hb
      rw [Lib.bitLen_shift8 n (by omega) (by omega)]
      clear HI e
      go_wp2
      go_ret
      exact ⟨by simp, rfl⟩
  · have t2 : decide ((65536 : Int) ≤ (n : Int)) = true := by rw [decide_eq_true_eq]; omega
    have t3 : decide ((256 : Int) ≤ (n : Int) / 65536) = false := by rw [decide_eq_false_iff_not]; omega
    have hi := HI ((n : Int) / 65536) (by omega) (by omega)
    have hb := Lib.bitLen_le8' ((n : Int) / 65536) (by omega) (by omega)
    have e : ((n : Int) / 65536).toNat = n / 65536 := by omega
    rw [e] at hi hb
    rw [Lib.bitLen_shift16 n (by omega) (by omega)]
    clear HI e
    go_wp2
    go_ret
    exact ⟨by simp, rfl⟩
set_option maxRecDepth 100000 in
theorem len_any (n : Nat) (w : World) (h1 : 1 ≤ n) (h : n < 16777216) : Calls Tryz.prog 102 #[.int .u64 (n : Int)] w fun e w' => e = .returned (.int .i64 ((Nat.log2 n + 1 : Nat) : Int)) ∧ w' = w := by
  have L := Lib.hid (fun w => len64_tr n w h1 h)
  go_enter Tryz.func102, Tryz.ntmps102
  go_wp2_with (go_at_call 59; refine (L.out _).mono ?_; rintro e w' ⟨rfl, rfl⟩)
  go_ret
  exact ⟨rfl, rfl⟩
set_option maxRecDepth 100000 in
theorem firstOnes_any (n : Nat) (w : World) (h2 : 2 ≤ n) (h : n < 16777216) : Calls Tryz.prog 79 #[.int .i64 (n : Int)] w fun e w' => e = .returned (.int .i64 (hp n : Int)) ∧ w' = w := by
  have L := Lib.hid (fun w => len_any (n - 1) w (by omega) (by omega))
  have e1 : ((n - 1 : Nat) : Int) = (n : Int) - 1 := by omega
  rw [e1] at L
  have hl : Nat.log2 (n - 1) < 24 := (Nat.log2_lt (by omega)).2 (by omega)
  go_enter Tryz.func79, Tryz.ntmps79
  unfold hp
  generalize Nat.log2 (n - 1) = k at *
  go_wp2_with (go_at_call 102; refine (L.out _).mono ?_; rintro e w' ⟨rfl, rfl⟩)
  go_ret
  refine ⟨?_, rfl⟩
  show Ending.returned (Value.int IntKind.i64 (wrap64 ((2 : Int) ^ k))) = _
  have e2 : ((2 : Int) ^ k) = ((2 ^ k : Nat) : Int) := by simp
  have e3 : 2 ^ k < 2 ^ 24 := Nat.pow_lt_pow_right (by decide) hl
  rw [e2]
  generalize 2 ^ k = z at *
  have e4 : wrap64 (z : Int) = z := by unfold wrap64; omega
  rw [e4]

end
section
set_option linter.unusedVariables false

open Go.RowKit
set_option maxRecDepth 100000 in
theorem under_leaf (b : List B8) : underB 1 [b] = 1 :: longP b := by simp [underB, longB, longP]
set_option maxRecDepth 100000 in
theorem under_node (a b : List B8) : underB 2 [a, b] = 2 :: (longP a ++ longP b) := by simp [underB, longB, longP]
set_option maxRecDepth 100000 in
theorem leafD_len (b : List B8) : (leafD b).length = 32 := dig_len _
set_option maxRecDepth 100000 in
theorem nodeD_len (a b : List B8) : (nodeD a b).length = 32 := dig_len _
set_option maxRecDepth 100000 in
theorem rootD_len (ls : List (List B8)) : (rootD ls).length = 32 := by
  by_cases h : 2 ≤ ls.length
  · rw [rootD_more h]; exact nodeD_len _ _
  · match ls, h with
    | [], _ => rw [rootD_nil]; exact dig_len _
    | [x], _ => rw [rootD_one]; exact leafD_len _
    | _ :: _ :: _, h => simp at h
abbrev ZIdT : Array Value := #[Value.int .u8 0, .int .u8 0, .int .u8 0, .int .u8 0, .int .u8 0, .int .u8 0, .int .u8 0, .int .u8 0, .int .u8 0, .int .u8 0, .int .u8 0, .int .u8 0, .int .u8 0, .int .u8 0, .int .u8 0, .int .u8 0, .int .u8 0, .int .u8 0, .int .u8 0, .int .u8 0, .int .u8 0, .int .u8 0, .int .u8 0, .int .u8 0, .int .u8 0, .int .u8 0, .int .u8 0, .int .u8 0, .int .u8 0, .int .u8 0, .int .u8 0, .int .u8 0]
set_option maxRecDepth 100000 in
theorem heap_belowT {w w' : World} (hb : Below w.heap.size w w') {g : Nat} {o : Obj} (h : w.heap[g]? = some o) : w'.heap[g]? = some o := (hb.block g (lt_of_block h)).trans h
set_option maxRecDepth 100000 in
/-- A list of one text, made here. -/
theorem lst_one {w : World} (A : Option Addr) (b : List B8) (c : Nat) (hB : Bts w A b) (hc : b.length ≤ c) (t : TypeId) :
    Lst (w.alloc (.cells #[.slice A b.length c] t)) (some ⟨w.heap.size, 0, none⟩) [b] := by
  intro i xs hi
  match i, hi with
  | 0, hi =>
    obtain rfl : b = xs := by simpa using hi
    refine ⟨_, A, c, rfl, ?_, hc, hB.below ((Below.refl _ _).alloc (Nat.le_refl _) _)⟩
    show World.cell? _ ⟨w.heap.size, 0, none⟩ = _
    rw [cell_of_row _ _ _ _ _ _ (heap_alloc_new w _)]; rfl
set_option maxRecDepth 100000 in
set_option maxHeartbeats 1000000 in
theorem rootOfOne_any (A : Option Addr) (c : Nat) (b : List B8) (w : World) (hB : Bts w A b) (hc : b.length ≤ c) (hG : Glob w) (hb : b.length ≤ 1000000000) :
    Calls Tryz.prog 78 #[.slice A b.length c] w fun e w' => e = .returned (.agg ((leafD b).map bv).toArray) ∧ Below w.heap.size w w' := by
  have U := Lib.hid (fun (g : Nat) (w : World) (hL : Lst w (some ⟨g, 0, none⟩) [b]) (hG : Glob w) => under_any 1 (some ⟨g, 0, none⟩) 1 [b] w hL hG (by rw [under_leaf]; simp [longP, wb_len]; omega) (by simp))
  rw [under_leaf] at U
  obtain ⟨C, hC⟩ : ∃ C, C = ((leafD b).map bv).toArray := ⟨_, rfl⟩
  unfold leafD at hC
  have hC32 : C.size = 32 := by rw [hC]; simp [dig_len]
  unfold leafD
  rw [← hC] at U ⊢
  have H1 := Lib.hid (show (Tryz.prog.info? 24).map (·.size) = some C.size by rw [hC32]; kernel_rfl)
  have H3 := Lib.hid (show C.all (·.oneCell') = true by rw [hC]; exact bvs_one _)
  have HC32 := Lib.hid hC32
  have HG := Lib.hid hG
  have HB := Lib.hid hB
  clear hC hC32 hG hB
  go_enter Tryz.func78, Tryz.ntmps78
  go_wp2_with fail
  obtain ⟨w1, hw1⟩ : ∃ w1, w1 = w.alloc (.cells ZIdT 24) := ⟨_, rfl⟩
  have hs1 : w1.heap.size = w.heap.size + 1 := by rw [hw1]; simp
  have hb1 : Below w.heap.size w w1 := by rw [hw1]; exact (Below.refl _ _).alloc (Nat.le_refl _) _
  have hz1 : w1.heap[w.heap.size]? = some (.cells ZIdT 24 (0, 0)) := by rw [hw1]; exact heap_alloc_new w _
  have hL := lst_one A b c (HB.out.below hb1) hc 22
  have hb2 : Below w.heap.size w (w1.alloc (.cells #[.slice A b.length c] 22)) := hb1.alloc (by omega) _
  have U1 := Lib.hid (U.out w1.heap.size _ hL ((HG.out.below hb1 HG.out.1).alloc _))
  have HZ := Lib.hid (heap_belowT ((Below.refl w1.heap.size w1).alloc (Nat.le_refl _) (.cells #[.slice A b.length c] 22)) hz1)
  have HB2 := Lib.hid hb2
  have HW := Lib.hid hw1
  rw [hs1] at U1
  rw [← hw1]
  clear hL hb1 hb2 hz1 hw1
  refine U1.out.mono ?_
  rintro e w2 ⟨rfl, hb3⟩
  have HA := Lib.hid (heap_belowT hb3 HZ.out)
  have HB3 := Lib.hid (HB2.out.trans (hb3.mono HB2.out.size))
  have H2 := Lib.hid (show ZIdT.size = C.size by rw [HC32.out]; rfl)
  clear hb3
  go_wp2_with (refine wpList_store_row rfl _ _ _ rfl w.heap.size C rfl rfl _ ZIdT HA.out H1.out H2.out H3.out ?_)
  have hA2 := setRow_heap w2 w.heap.size ZIdT C 24 (0, 0) HA.out
  refine bodyPost_ret (v := .agg C) ?_ rfl ⟨rfl, below_setRow HB3.out (Nat.le_refl _) C⟩
  exact results_cell_row Tryz.results78 _ _ w.heap.size _ C (0, 0) _ rfl hA2 Tryz.underlying24 rfl H1.out
set_option maxRecDepth 100000 in
theorem bts_rowT {w : World} {g : Nat} {d : List B8} {t : TypeId} {fr : Nat × Nat} (h : w.heap[g]? = some (.cells (d.map bv).toArray t fr)) : Bts w (some ⟨g, 0, none⟩) d := fun j u hu =>
  ⟨_, rfl, by
    have e : (⟨g, 0, none⟩ : Addr).add j = ⟨g, j, none⟩ := by unfold Addr.add; by_cases hj : j = 0 <;> simp [hj]
    rw [e, cell_of_row _ _ _ _ _ _ h, List.getElem?_toArray]; exact hu⟩
set_option maxRecDepth 100000 in
theorem lst_twoT {w : World} (A A' : Option Addr) (a b : List B8) (c c' : Nat) (hA : Bts w A a) (hB : Bts w A' b) (hc : a.length ≤ c) (hc' : b.length ≤ c') (t : TypeId) :
    Lst (w.alloc (.cells #[.slice A a.length c, .slice A' b.length c'] t)) (some ⟨w.heap.size, 0, none⟩) [a, b] := by
  intro i xs hi
  have hb := (Below.refl w.heap.size w).alloc (Nat.le_refl _) (.cells #[.slice A a.length c, .slice A' b.length c'] t)
  match i, hi with
  | 0, hi =>
    obtain rfl : a = xs := by simpa using hi
    refine ⟨_, A, c, rfl, ?_, hc, hA.below hb⟩
    show World.cell? _ ⟨w.heap.size, 0, none⟩ = _
    rw [cell_of_row _ _ _ _ _ _ (heap_alloc_new w _)]; rfl
  | 1, hi =>
    obtain rfl : b = xs := by simpa using hi
    refine ⟨_, A', c', rfl, ?_, hc', hB.below hb⟩
    show World.cell? _ ⟨w.heap.size, 1, none⟩ = _
    rw [cell_of_row _ _ _ _ _ _ (heap_alloc_new w _)]; rfl
set_option maxRecDepth 100000 in
set_option maxHeartbeats 1000000 in
theorem joined_any (a b : List B8) (w : World) (ha : a.length = 32) (hb : b.length = 32) (hG : Glob w) :
    Calls Tryz.prog 80 #[.agg (a.map bv).toArray, .agg (b.map bv).toArray] w fun e w' => e = .returned (.agg ((nodeD a b).map bv).toArray) ∧ Below w.heap.size w w' := by
  have U := Lib.hid (fun (g : Nat) (w : World) (hL : Lst w (some ⟨g, 0, none⟩) [a, b]) (hG : Glob w) => under_any 2 (some ⟨g, 0, none⟩) 2 [a, b] w hL hG (by rw [under_node]; simp [longP, wb_len]; omega) (by simp))
  rw [under_node] at U
  obtain ⟨C, hC⟩ : ∃ C, C = ((nodeD a b).map bv).toArray := ⟨_, rfl⟩
  have hC32 : C.size = 32 := by rw [hC]; simp [nodeD_len]
  have H3 := Lib.hid (show C.all (·.oneCell') = true by rw [hC]; exact bvs_one _)
  rw [← hC]
  unfold nodeD at hC
  rw [← hC] at U
  have H1 := Lib.hid (show (Tryz.prog.info? 24).map (·.size) = some C.size by rw [hC32]; kernel_rfl)
  have HC32 := Lib.hid hC32
  have HG := Lib.hid hG
  have ra := (heap_alloc2_old w (.cells (a.map bv).toArray 24) (.cells (b.map bv).toArray 24))
  have rb := (heap_alloc2_new w (.cells (a.map bv).toArray 24) (.cells (b.map bv).toArray 24))
  have hbz : Below w.heap.size w ((w.alloc (.cells (a.map bv).toArray 24)).alloc (.cells (b.map bv).toArray 24)) := ((Below.refl _ _).alloc (Nat.le_refl _) _).alloc (by simp) _
  have RA := Lib.hid ra
  have RB := Lib.hid rb
  have HBZ := Lib.hid hbz
  have LA := Lib.hid ha
  have LB := Lib.hid hb
  clear hC hC32 hG ra rb hbz ha hb
  have hsz : ((w.alloc (.cells (a.map bv).toArray 24)).alloc (.cells (b.map bv).toArray 24)).heap.size = w.heap.size + 2 := by simp
  go_enter Tryz.func80, Tryz.ntmps80
  go_wp2
  obtain ⟨w2, hw2⟩ : ∃ w2, w2 = (w.alloc (.cells (a.map bv).toArray 24)).alloc (.cells (b.map bv).toArray 24) := ⟨_, rfl⟩
  obtain ⟨w3, hw3⟩ : ∃ w3, w3 = w2.alloc (.cells ZIdT 24) := ⟨_, rfl⟩
  rw [← hw2] at RA RB HBZ hsz
  rw [← hw2]
  rw [← hw3]
  have HW2 := Lib.hid hw2
  have hs3 : w3.heap.size = w.heap.size + 3 := by rw [hw3]; simp [hsz]
  have hb3 : Below w.heap.size w w3 := by rw [hw3]; exact HBZ.out.alloc (by omega) _
  have hz3 : w3.heap[w.heap.size + 2]? = some (.cells ZIdT 24 (0, 0)) := by rw [hw3, ← hsz]; exact heap_alloc_new w2 _
  have h23 : Below w2.heap.size w2 w3 := by rw [hw3]; exact (Below.refl _ _).alloc (Nat.le_refl _) _
  have BA := Lib.hid (bts_rowT (d := a) (heap_belowT h23 RA.out))
  have BB := Lib.hid (bts_rowT (d := b) (heap_belowT h23 RB.out))
  have HZ := Lib.hid hz3
  have HB3 := Lib.hid hb3
  have HS3 := Lib.hid hs3
  clear hz3 hb3 hs3 h23 hw3 hw2 RA RB HBZ hsz
  go_still_tail 2, (by kernel_rfl)
  change wpList _ _ _ _ _ w3.drew
  go_wp2_with fail
  have hL := lst_twoT (some ⟨w.heap.size, 0, none⟩) (some ⟨w.heap.size + 1, 0, none⟩) a b 32 32 BA.out BB.out (by rw [LA.out]; omega) (by rw [LB.out]; omega) 22
  rw [LA.out, LB.out] at hL
  have hb4 : Below w.heap.size w (w3.alloc (.cells #[.slice (some ⟨w.heap.size, 0, none⟩) 32 32, .slice (some ⟨w.heap.size + 1, 0, none⟩) 32 32] 22)).drew := (HB3.out.alloc (by rw [HS3.out]; omega) _).drew
  have U1 := Lib.hid (U.out w3.heap.size (w3.alloc (.cells #[.slice (some ⟨w.heap.size, 0, none⟩) 32 32, .slice (some ⟨w.heap.size + 1, 0, none⟩) 32 32] 22)).drew hL (HG.out.below hb4 HG.out.1))
  have HZ4 := Lib.hid (heap_belowT ((Below.refl w3.heap.size w3).alloc (Nat.le_refl _) (.cells #[.slice (some ⟨w.heap.size, 0, none⟩) 32 32, .slice (some ⟨w.heap.size + 1, 0, none⟩) 32 32] 22)) HZ.out)
  have HB4 := Lib.hid hb4
  clear hL hb4
  refine U1.out.mono ?_
  rintro e w5 ⟨rfl, hb5⟩
  have HA := Lib.hid (heap_belowT hb5 HZ4.out)
  have HB5 := Lib.hid (HB4.out.trans (hb5.mono HB4.out.size))
  have H2 := Lib.hid (show ZIdT.size = C.size by rw [HC32.out]; rfl)
  clear hb5
  go_wp2_with (refine wpList_store_row rfl _ _ _ rfl (w.heap.size + 2) C rfl rfl _ ZIdT HA.out H1.out H2.out H3.out ?_)
  have hA2 := setRow_heap w5 (w.heap.size + 2) ZIdT C 24 (0, 0) HA.out
  refine bodyPost_ret (v := .agg C) ?_ rfl ⟨rfl, below_setRow HB5.out (by omega) C⟩
  exact results_cell_row Tryz.results80 _ _ (w.heap.size + 2) _ C (0, 0) _ rfl hA2 Tryz.underlying24 rfl H1.out

end
section
set_option linter.unusedVariables false

open Go.RowKit
set_option maxRecDepth 100000 in
theorem size_sl (w : World) : (sizeOf 22).run Tryz.prog w = .ok 1 w := by kernel_rfl
set_option maxRecDepth 100000 in
theorem slicel_hi (A : Option Addr) (len cap n : Nat) (h : n ≤ len) (hc : len ≤ cap) (w : World) : (Instr.slice 48 (.slice A len cap) none (some (.int .i64 (n : Int))) none).run Tryz.prog w = .ok (.slice A n cap) w := by
  rw [run_slice_h (P := Tryz.prog) w 48 A len cap (by kernel_rfl) .i64 (n : Int) (by omega) (by omega)]
  rw [show Tryz.prog.elem 48 = 22 by kernel_rfl, size_sl]
  simp [Result.andThen, sliced, Addr.add]
set_option maxRecDepth 100000 in
theorem slicel_lo (A : Option Addr) (len cap n : Nat) (h : n ≤ len) (w : World) : (Instr.slice 48 (.slice A len cap) (some (.int .i64 (n : Int))) none none).run Tryz.prog w = .ok (.slice (cutA A cap n) (len - n) (cap - n)) w := by
  rw [run_slice_l (P := Tryz.prog) w 48 A len cap (by kernel_rfl) .i64 (n : Int) (by omega) (by omega)]
  rw [show Tryz.prog.elem 48 = 22 by kernel_rfl, size_sl]
  simp [Result.andThen, sliced, cutA]
set_option maxRecDepth 100000 in
theorem Lst.front {w : World} {A : Option Addr} {ls : List (List B8)} (h : Lst w A ls) (n : Nat) : Lst w A (ls.take n) := fun i xs hi => by
  rw [List.getElem?_take] at hi
  split at hi
  · exact h i xs hi
  · cases hi
set_option maxRecDepth 100000 in
theorem Lst.cut {w : World} {A : Option Addr} {ls : List (List B8)} (h : Lst w A ls) (cap n : Nat) (hc : ls.length ≤ cap) : Lst w (cutA A cap n) (ls.drop n) := fun i xs hi => by
  rw [List.getElem?_drop] at hi
  obtain ⟨ad, Ai, ci, rfl, hcl, h1, h2⟩ := h (n + i) xs hi
  have hlt := (List.getElem?_eq_some_iff.1 hi).1
  refine ⟨ad.add n, Ai, ci, ?_, by rw [add_add]; exact hcl, h1, h2⟩
  unfold cutA
  rw [if_neg (by omega)]; rfl
set_option maxRecDepth 100000 in
theorem under_zero : underB 0 [] = [0] := rfl
set_option maxRecDepth 100000 in
set_option maxHeartbeats 2000000 in
theorem root_small (ls : List (List B8)) (h2 : ¬ 2 ≤ ls.length) (h60 : ∀ xs ∈ ls, xs.length ≤ 1000000) (A : Option Addr) (c : Nat) (w : World) (hL : Lst w A ls) (hc : ls.length ≤ c) (hG : Glob w) :
    Calls Tryz.prog 42 #[.slice A ls.length c] w fun e w' => e = .returned (.agg ((rootD ls).map bv).toArray) ∧ Below w.heap.size w w' := by
  obtain ⟨C, hC⟩ : ∃ C, C = ((rootD ls).map bv).toArray := ⟨_, rfl⟩
  have hC32 : C.size = 32 := by rw [hC]; simp [rootD_len]
  have H3 := Lib.hid (show C.all (·.oneCell') = true by rw [hC]; exact bvs_one _)
  have H1 := Lib.hid (show (Tryz.prog.info? 24).map (·.size) = some C.size by rw [hC32]; kernel_rfl)
  have H2 := Lib.hid (show ZIdT.size = C.size by rw [hC32]; rfl)
  obtain ⟨w1, hw1⟩ : ∃ w1, w1 = w.alloc (.cells ZIdT 24) := ⟨_, rfl⟩
  have hb1 : Below w.heap.size w w1 := by rw [hw1]; exact (Below.refl _ _).alloc (Nat.le_refl _) _
  have hz1 : w1.heap[w.heap.size]? = some (.cells ZIdT 24 (0, 0)) := by rw [hw1]; exact heap_alloc_new w _
  have HB1 := Lib.hid hb1
  have HZ1 := Lib.hid hz1
  have HG1 := Lib.hid (show Glob w1 from hG.below hb1 hG.1)
  have HL1 := hL.below hb1
  rw [← hC]
  rcases ls with _ | ⟨x, _ | ⟨y, l⟩⟩
  · have U := Lib.hid (under_any 0 none 0 [] w1 (fun i xs hi => by simp at hi) HG1.out (by decide) (by decide))
    rw [under_zero] at U
    rw [rootD_nil] at hC
    rw [← hC] at U
    clear hb1 hz1 hL hG hC hC32
    go_enter Tryz.func42, Tryz.ntmps42
    go_wp2_with (go_at_call 77; refine stop ?_)
    unfold Stop
    rw [← hw1]
    refine U.out.mono ?_
    rintro e w2 ⟨rfl, hb3⟩
    have HA := Lib.hid (heap_belowT hb3 HZ1.out)
    have HB3 := Lib.hid (HB1.out.trans (hb3.mono HB1.out.size))
    clear hb3
    go_wp2_with (refine wpList_store_row rfl _ _ _ rfl w.heap.size C rfl rfl _ ZIdT HA.out H1.out H2.out H3.out ?_)
    have hA2 := setRow_heap w2 w.heap.size ZIdT C 24 (0, 0) HA.out
    refine bodyPost_ret (v := .agg C) ?_ rfl ⟨rfl, below_setRow HB3.out (Nat.le_refl _) C⟩
    exact results_cell_row Tryz.results42 _ _ w.heap.size _ C (0, 0) _ rfl hA2 Tryz.underlying24 rfl H1.out
  · rw [rootD_one] at hC
    obtain ⟨ad, Ai, ci, rfl, hcl, hci, hbt⟩ := HL1 0 x rfl
    have e0 : ad.add 0 = ad := by unfold Addr.add; simp
    rw [e0] at hcl
    have h60' := h60 x (by simp)
    have R := Lib.hid (rootOfOne_any Ai ci x w1 hbt hci HG1.out (by omega))
    rw [← hC] at R
    clear hb1 hz1 hL hG hC hC32 hbt HL1 h60 hc
    go_enter Tryz.func42, Tryz.ntmps42
    go_upto_region 5 with fail
    rw [← hw1]
    clear hw1
    go_wp2_with (go_at_call 78; refine stop ?_)
    unfold Stop
    refine R.out.mono ?_
    rintro e w2 ⟨rfl, hb3⟩
    have HA := Lib.hid (heap_belowT hb3 HZ1.out)
    have HB3 := Lib.hid (HB1.out.trans (hb3.mono HB1.out.size))
    clear hb3
    go_wp2_with (refine wpList_store_row rfl _ _ _ rfl w.heap.size C rfl rfl _ ZIdT HA.out H1.out H2.out H3.out ?_)
    have hA2 := setRow_heap w2 w.heap.size ZIdT C 24 (0, 0) HA.out
    refine bodyPost_ret (v := .agg C) ?_ rfl ⟨rfl, below_setRow HB3.out (Nat.le_refl _) C⟩
    exact results_cell_row Tryz.results42 _ _ w.heap.size _ C (0, 0) _ rfl hA2 Tryz.underlying24 rfl H1.out
  · simp at h2
set_option maxRecDepth 100000 in
set_option maxHeartbeats 2000000 in
theorem root_any : ∀ (N : Nat) (ls : List (List B8)), ls.length ≤ N → ls.length ≤ 1000000 → (∀ xs ∈ ls, xs.length ≤ 1000000) → ∀ (A : Option Addr) (c : Nat) (w : World), Lst w A ls → ls.length ≤ c → Glob w →
    Calls Tryz.prog 42 #[.slice A ls.length c] w fun e w' => e = .returned (.agg ((rootD ls).map bv).toArray) ∧ Below w.heap.size w w' := by
  intro N
  induction N with
  | zero =>
    intro ls hN hm h60 A c w hL hc hG
    exact root_small ls (by omega) h60 A c w hL hc hG
  | succ N ih =>
    intro ls hN hm h60 A c w hL hc hG
    by_cases h2 : 2 ≤ ls.length
    · have hh := hp_lt h2
      have hh1 := hp_pos ls.length
      have F := Lib.hid (fun w => firstOnes_any ls.length w h2 (by omega))
      have eR := rootD_more h2
      have sh := slicel_hi A ls.length c (hp ls.length) (by omega) hc
      have sl := slicel_lo A ls.length c (hp ls.length) (by omega)
      have lk : (ls.take (hp ls.length)).length = hp ls.length := by simp; omega
      have ld : (ls.drop (hp ls.length)).length = ls.length - hp ls.length := by simp
      have R1 := Lib.hid (fun (w : World) (hL : Lst w A ls) (hG : Glob w) => ih (ls.take (hp ls.length)) (by omega) (by omega) (fun xs hx => h60 xs (List.mem_of_mem_take hx)) A c w (hL.front _) (by omega) hG)
      have R2 := Lib.hid (fun (w : World) (hL : Lst w A ls) (hG : Glob w) => ih (ls.drop (hp ls.length)) (by omega) (by omega) (fun xs hx => h60 xs (List.mem_of_mem_drop hx)) (cutA A c (hp ls.length)) (c - hp ls.length) w (hL.cut c _ hc) (by omega) hG)
      rw [lk] at R1
      rw [ld] at R2
      have J := Lib.hid (fun w hG => joined_any (rootD (ls.take (hp ls.length))) (rootD (ls.drop (hp ls.length))) w (rootD_len _) (rootD_len _) hG)
      rw [← eR] at J
      obtain ⟨C1, hC1⟩ : ∃ C, C = ((rootD (ls.take (hp ls.length))).map bv).toArray := ⟨_, rfl⟩
      obtain ⟨C2, hC2⟩ : ∃ C, C = ((rootD (ls.drop (hp ls.length))).map bv).toArray := ⟨_, rfl⟩
      obtain ⟨C, hC⟩ : ∃ C, C = ((rootD ls).map bv).toArray := ⟨_, rfl⟩
      have hC32 : C.size = 32 := by rw [hC]; simp [rootD_len]
      have H3 := Lib.hid (show C.all (·.oneCell') = true by rw [hC]; exact bvs_one _)
      have H1 := Lib.hid (show (Tryz.prog.info? 24).map (·.size) = some C.size by rw [hC32]; kernel_rfl)
      have H2 := Lib.hid (show ZIdT.size = C.size by rw [hC32]; rfl)
      rw [← hC1] at R1 J
      rw [← hC2] at R2 J
      rw [← hC] at J ⊢
      have HL := Lib.hid hL
      have HG := Lib.hid hG
      clear hC hC1 hC2 hC32 eR lk ld hL hG ih h60 hN
      generalize hp ls.length = h at *
      go_enter Tryz.func42, Tryz.ntmps42
      go_wp2_with (go_at_call 79; refine (F.out _).mono ?_; rintro e w' ⟨rfl, rfl⟩)
      obtain ⟨w1, hw1⟩ : ∃ w1, w1 = w.alloc (.cells ZIdT 24) := ⟨_, rfl⟩
      have hb1 : Below w.heap.size w w1 := by rw [hw1]; exact (Below.refl _ _).alloc (Nat.le_refl _) _
      have hz1 : w1.heap[w.heap.size]? = some (.cells ZIdT 24 (0, 0)) := by rw [hw1]; exact heap_alloc_new w _
      have HB1 := Lib.hid hb1
      have HZ1 := Lib.hid hz1
      have HL1 := Lib.hid (show Lst w1.drew A ls from HL.out.below hb1.drew)
      have HG1 := Lib.hid (show Glob w1.drew from HG.out.below hb1.drew HG.out.1)
      rw [← hw1]
      clear hb1 hz1 hw1
      refine wp_region_rel_tail 9 27 (by kernel_rfl) (by kernel_rfl) Stp [.one ?_, .one ?_, .one ?_, .one ?_, .one ?_, .one ?_, .one ?_, .one ?_, .one ?_] (by kernel_rfl) rfl (by kernel_rfl) Stp.refl Stp.trans trivial ?main
      case main =>
      simp only [List.take_succ_cons, List.take_zero, List.drop_succ_cons, List.drop_zero]
      iterate 3
        refine wpR_one (A' := ?_) Stp.refl (by rfl) _ rfl 27 (by rfl) (by rfl) ?_ ?_ ?_
        rotate_left 1
        · simp only [Act.put, List.setIfInBounds_toArray, List.set_cons_zero, List.set_cons_succ]; rfl
        · intro w1 hs hf K hK
          go_big_quiet_op
          first
            | go_big_quiet_on
            | (refine ⟨_, fun _ _ => rfl, ?_⟩; go_big_quiet_on)
          rfl
      refine wpR_one (A' := ?_) Stp.refl (by rfl) _ rfl 27 (by rfl) (by rfl) ?_ ?_ ?_
      rotate_left 1
      · simp only [Act.put, List.setIfInBounds_toArray, List.set_cons_zero, List.set_cons_succ]; rfl
      · intro w1 hs hf K hK
        have hg1 := Lib.hid (glob_stp HG1.out hs)
        have hl1 := Lib.hid (lst_stp HL1.out hs)
        go_big_quiet_op
        apply Exists.intro
        refine ⟨fun w2 h2 => ?_, ?_⟩
        · refine (R1.out w2 (lst_stp hl1.out h2) (glob_stp hg1.out h2)).mono ?_
          rintro e w3 ⟨rfl, h3⟩
          exact ⟨rfl, Stp.trans _ _ _ h2 h3⟩
        · go_big_quiet_on
          rfl
      iterate 3
        refine wpR_one (A' := ?_) Stp.refl (by rfl) _ rfl 27 (by rfl) (by rfl) ?_ ?_ ?_
        rotate_left 1
        · simp only [Act.put, List.setIfInBounds_toArray, List.set_cons_zero, List.set_cons_succ]; rfl
        · intro w1 hs hf K hK
          go_big_quiet_op
          first
            | go_big_quiet_on
            | (refine ⟨_, fun _ _ => rfl, ?_⟩; go_big_quiet_on)
          rfl
      refine wpR_one (A' := ?_) Stp.refl (by rfl) _ rfl 27 (by rfl) (by rfl) ?_ ?_ ?_
      rotate_left 1
      · simp only [Act.put, List.setIfInBounds_toArray, List.set_cons_zero, List.set_cons_succ]; rfl
      · intro w1 hs hf K hK
        have hg1 := Lib.hid (glob_stp HG1.out hs)
        have hl1 := Lib.hid (lst_stp HL1.out hs)
        go_big_quiet_op
        apply Exists.intro
        refine ⟨fun w2 h2 => ?_, ?_⟩
        · refine (R2.out w2 (lst_stp hl1.out h2) (glob_stp hg1.out h2)).mono ?_
          rintro e w3 ⟨rfl, h3⟩
          exact ⟨rfl, Stp.trans _ _ _ h2 h3⟩
        · go_big_quiet_on
          rfl
      refine wpR_one (A' := ?_) Stp.refl (by rfl) _ rfl 27 (by rfl) (by rfl) ?_ ?_ ?_
      rotate_left 1
      · simp only [Act.put, List.setIfInBounds_toArray, List.set_cons_zero, List.set_cons_succ]; rfl
      · intro w1 hs hf K hK
        have hg1 := Lib.hid (glob_stp HG1.out hs)
        have hl1 := Lib.hid (lst_stp HL1.out hs)
        go_big_quiet_op
        apply Exists.intro
        refine ⟨fun w2 h2 => ?_, ?_⟩
        · refine (J.out w2 (glob_stp hg1.out h2)).mono ?_
          rintro e w3 ⟨rfl, h3⟩
          exact ⟨rfl, Stp.trans _ _ _ h2 h3⟩
        · go_big_quiet_on
          rfl
      intro w9 hs hf
      have HB9 := Lib.hid (stp_start hs HB1.out)
      have HZ9 := Lib.hid (heap_belowT hs HZ1.out)
      clear hs hf
      go_wp2_with (refine wpList_store_row rfl _ _ _ rfl w.heap.size C rfl rfl _ ZIdT HZ9.out H1.out H2.out H3.out ?_)
      have hA2 := setRow_heap w9 w.heap.size ZIdT C 24 (0, 0) HZ9.out
      refine bodyPost_ret (v := .agg C) ?_ rfl ⟨rfl, below_setRow HB9.out (Nat.le_refl _) C⟩
      exact results_cell_row Tryz.results42 _ _ w.heap.size _ C (0, 0) _ rfl hA2 Tryz.underlying24 rfl H1.out
    · exact root_small ls h2 h60 A c w hL hc hG

end
section
set_option linter.unusedVariables false

open Go.RowKit
set_option maxRecDepth 100000 in
theorem half_any (n : Nat) (w : World) (h2 : 2 ≤ n) (h : n < 1099511627776) : Calls Tryz.prog 55 #[.int .i64 (n : Int)] w fun e w' => e = .returned (.int .i64 (hp n : Int)) ∧ w' = w := by
  go_enter Tryz.func55, Tryz.ntmps55
  go_wp2
  go_loopw [3] (fun i wr => ∃ k j : Nat, k = 2 ^ j ∧ k < n ∧ i = .int .i64 (k : Int) ∧ wr = w) (fun i _ => n - (intOf i).toNat)
  case atStart => exact ⟨1, 0, rfl, by omega, rfl, rfl⟩
  case round =>
    obtain ⟨k, j, hj, hk, rfl, rfl⟩ := hrel
    have h1 : 1 ≤ k := by rw [hj]; exact Nat.one_le_two_pow
    by_cases hlt : 2 * k < n
    · have HJ := Lib.hid (show 2 * k = 2 ^ (j + 1) by rw [hj, Nat.pow_succ]; omega)
      clear hj
      go_wp2
      go_roundw
      case rel => exact ⟨2 * k, j + 1, HJ.out, hlt, by go_num, by trivial⟩
      case measure => simp [intOf]; omega
    · have HJ := Lib.hid (show k = hp n by rw [hj]; exact hp_uniq (by rw [← hj]; exact hk) (by rw [← hj]; omega))
      clear hj
      go_wp2
      go_ret
      rw [HJ.out]
      exact ⟨rfl, rfl⟩
set_option maxRecDepth 100000 in
set_option maxHeartbeats 1000000 in
theorem id_any (d : List B8) (w : World) (hd : d.length = 32) : Calls Tryz.prog 63 #[.agg (d.map bv).toArray] w fun e w' => ∃ v, e = .returned v ∧ w'.ownsRow w.heap.size 5 1 v 32 (d.map bv) ∧ Below w.heap.size w w' := by
  obtain ⟨i0, hi, hz0, hz1, hz2⟩ := info_parts info_u8
  have rd := row_at d hd _ w.heap.size _ _ (heap_alloc_new w (.cells (d.map bv).toArray 24))
  have hbz : Below w.heap.size w (w.alloc (.cells (d.map bv).toArray 24)) := (Below.refl _ _).alloc (Nat.le_refl _) _
  have hsz : (w.alloc (.cells (d.map bv).toArray 24)).heap.size = w.heap.size + 1 := by simp
  have RD := Lib.hid rd
  have HBZ := Lib.hid hbz
  have HD := Lib.hid hd
  clear rd hbz hd
  go_enter Tryz.func63, Tryz.ntmps63
  go_wp2
  generalize w.alloc (.cells (d.map bv).toArray 24) = wz at *
  go_loopw [3, 4] (fun v i wr => ∃ k : Nat, k ≤ 32 ∧ i = .int .i64 (k : Int) ∧ wr.ownsRow (w.heap.size + 1) 5 1 v k ((d.take k).map bv) ∧ Below (w.heap.size + 1) wz wr) (fun _ i _ => 32 - (intOf i).toNat)
  case atStart => exact ⟨0, by omega, rfl, World.ownsRow_nil _ _ _ _, Below.refl _ _⟩
  case round =>
    obtain ⟨k, hk, rfl, ho, hb⟩ := hrel
    by_cases hlt : k < 32
    · have hc := RD.out k hlt
      have hcr : wr.cell? ⟨w.heap.size, k, none⟩ = some (bv (d.getD k 0)) := (hb.cell (by simp)).trans hc
      have HT := Lib.hid (show (d.take (k + 1)) = d.take k ++ [d.getD k 0] by
        rw [List.take_succ_eq_append_getElem (by rw [HD.out]; exact hlt), List.getD_eq_getElem?_getD, List.getElem?_eq_getElem (by rw [HD.out]; exact hlt)]; rfl)
      have HO := Lib.hid ho
      have HB := Lib.hid hb
      have hsr : w.heap.size + 1 ≤ wr.heap.size := by have := hb.size; omega
      clear hc ho hb
      generalize d.getD k 0 = x at *
      unfold bv at hcr
      go_wp2_with (at_builtin; refine stop ?_)
      unfold Stop
      have ha : Below wr.heap.size wr (wr.alloc (.cells #[.int .u8 (x.toNat : Int)] 5)) := (Below.refl _ _).alloc (Nat.le_refl _) _
      have HO2 := Lib.hid (own_below HO.out ha)
      have HB2 := Lib.hid (HB.out.trans (ha.mono hsr))
      clear ha
      refine wpList_append_any (o := ⟨some 14, _, _, _, _, _⟩) rfl _ _ 22 rfl (w.heap.size + 1) 5 i0 (.int .u8 0) 1 Tryz.underlying22 hi hz0 hz1 hz2 rfl _ k _ rfl HO2.out (some ⟨wr.heap.size, 0, none⟩) 1 1 [bv x] rfl (fun h => by cases h) rfl ?_ (bv_one [x]) ?_ ?_ ?_ ?_
      · intro j u hu
        refine ⟨_, rfl, ?_⟩
        match j, hu with
        | 0, hu =>
          obtain rfl : bv x = u := by simpa using hu
          show World.cell? _ ⟨wr.heap.size, 0, none⟩ = _
          rw [cell_of_row _ _ _ _ _ _ (heap_alloc_new wr _)]; rfl
      · unfold maxLen; omega
      · omega
      · simp; omega
      intro v3 w3 g1 g2
      have HO3 := Lib.hid (show w3.ownsRow (w.heap.size + 1) 5 1 v3 (k + 1) ((d.take (k + 1)).map bv) by rw [HT.out, List.map_append]; exact g1)
      have HB3 := Lib.hid (HB2.out.grown g2 (by simp; omega) (fun k hk => (HO2.out.lt k hk).1))
      clear g1 g2
      go_wp2_with fail
      go_roundw
      case rel => exact ⟨k + 1, by omega, by go_num, HO3.out, HB3.out⟩
      case measure => simp [intOf]; omega
    · obtain rfl : k = 32 := by omega
      rw [List.take_of_length_le (by rw [HD.out]; omega)] at ho
      have HO := Lib.hid ho
      have HB := Lib.hid hb
      clear ho hb
      go_wp2_with fail
      go_ret
      exact ⟨_, rfl, own_more HO.out (by omega), HBZ.out.trans (HB.out.mono (by omega))⟩

end
section
set_option linter.unusedVariables false

open Go.RowKit
set_option maxRecDepth 100000 in
theorem longP_len (b : List B8) : (longP b).length = 4 + b.length := by simp [longP, wb_len]
set_option maxRecDepth 100000 in
theorem own_bts {w : World} {B n g cap : Nat} {l : List B8} (h : w.ownsRow B 5 1 (.slice (some ⟨g, 0, none⟩) n cap) n (l.map bv)) : Bts w (some ⟨g, 0, none⟩) l := fun j u hu => ⟨_, rfl, h.cells rfl j u hu⟩
set_option maxRecDepth 100000 in
set_option maxHeartbeats 2000000 in
theorem rleaf_any (A : Option Addr) (c : Nat) (b : List B8) (w : World) (hB : Bts w A b) (hA : A = none → c = 0) (hc : b.length ≤ c) (hb : b.length ≤ 1000000) :
    Calls Tryz.prog 36 #[.slice A b.length c] w fun e w' => e = .returned (.agg ((leafD b).map bv).toArray) ∧ Below w.heap.size w w' := by
  obtain ⟨i0, hi, hz0, hz1, hz2⟩ := info_parts info_u8
  obtain ⟨C, hC⟩ : ∃ C, C = ((leafD b).map bv).toArray := ⟨_, rfl⟩
  have hC32 : C.size = 32 := by rw [hC]; simp [leafD_len]
  have H3 := Lib.hid (show C.all (·.oneCell') = true by rw [hC]; exact bvs_one _)
  have H1 := Lib.hid (show (Tryz.prog.info? 24).map (·.size) = some C.size by rw [hC32]; kernel_rfl)
  have H2 := Lib.hid (show ZIdT.size = C.size by rw [hC32]; rfl)
  have O := Lib.hid (fun (g cap : Nat) (w : World) (h : Bts w (some ⟨g, 0, none⟩) (1 :: longP b)) (hc : 1 + (4 + b.length) ≤ cap) => of_any (some ⟨g, 0, none⟩) cap (1 :: longP b) w h (fun h => by cases h) (by rw [List.length_cons, longP_len]; omega) (by rw [List.length_cons, longP_len]; omega))
  have e1 : (1 :: longP b).length = 1 + (4 + b.length) := by rw [List.length_cons, longP_len]; omega
  rw [e1] at O
  rw [← hC]
  unfold leafD at hC
  rw [← hC] at O
  obtain ⟨w1, hw1⟩ : ∃ w1, w1 = (w.alloc (.cells ZIdT 24)).alloc (.cells #[bv 1] 5) := ⟨_, rfl⟩
  have hb1 : Below w.heap.size w w1 := by rw [hw1]; exact ((Below.refl _ _).alloc (Nat.le_refl _) _).alloc (by simp) _
  have hz1' : w1.heap[w.heap.size]? = some (.cells ZIdT 24 (0, 0)) := by rw [hw1]; exact heap_alloc2_old w _ _
  have ho1 : w1.ownsRow (w.heap.size + 1) 5 1 (.slice (some ⟨w.heap.size + 1, 0, none⟩) 1 1) 1 [bv 1] := by
    have := own_new (w.alloc (.cells ZIdT 24)) (w.heap.size + 1) 5 [bv 1] 1 rfl (by simp) (by unfold maxLen; omega)
    rw [show (w.alloc (.cells ZIdT 24)).heap.size = w.heap.size + 1 by simp] at this
    rw [hw1]; exact this
  have L := Lib.hid (long_any A c b w1 (hB.below hb1) hA (by omega))
  have HB1 := Lib.hid hb1
  have HZ1 := Lib.hid hz1'
  have HO1 := Lib.hid ho1
  have hs1 : w1.heap.size = w.heap.size + 2 := by rw [hw1]; simp
  clear hC hC32 hB hb1 hz1' ho1 e1
  go_enter Tryz.func36, Tryz.ntmps36
  go_wp2_with (go_at_call 62; refine stop ?_)
  unfold Stop
  change w1 = (w.alloc (.cells ZIdT 24)).alloc (.cells #[.int .u8 1] 5) at hw1
  rw [← hw1]
  clear hw1
  generalize Value.slice (some ⟨w.heap.size + 1, 0, none⟩) 1 1 = v3 at *
  refine L.out.mono ?_
  rintro e w2 ⟨v5, rfl, ho5, hb2⟩
  obtain ⟨g, cap, rfl, hg1, hg2⟩ := ho5.form (by omega)
  have HO2 := Lib.hid (own_below HO1.out hb2)
  have HB2 := Lib.hid (HB1.out.trans (hb2.mono HB1.out.size))
  have HZ2 := Lib.hid (heap_belowT hb2 HZ1.out)
  have H5 := Lib.hid (own_bts ho5)
  have hs2 := hb2.size
  clear ho5 hb2
  go_wp2_with (at_builtin; refine stop ?_)
  unfold Stop
  refine wpList_append_any (o := ⟨some 6, _, _, _, _, _⟩) rfl _ _ 22 rfl (w.heap.size + 1) 5 i0 (.int .u8 0) 1 Tryz.underlying22 hi hz0 hz1 hz2 rfl _ 1 _ rfl HO2.out (some ⟨g, 0, none⟩) (4 + b.length) cap ((longB b).map bv) rfl (fun h => by cases h) (by rw [List.length_map, long_len]) H5.out (bv_one _) ?_ ?_ ?_ ?_
  · unfold maxLen; omega
  · omega
  · omega
  intro v6 w3 g1 g2
  obtain ⟨g', cap', rfl, hg3, hg4⟩ := World.ownsRow.form g1 (by omega)
  have HX := Lib.hid (show Bts w3 (some ⟨g', 0, none⟩) (1 :: longP b) from own_bts (l := 1 :: longP b) g1)
  have HB3 := Lib.hid (HB2.out.grown g2 (by omega) (fun k hk => by have := (HO2.out.lt k hk).1; omega))
  have HZ3 := Lib.hid ((g2.block _ (lt_of_block HZ2.out) (fun h => by have := (HO2.out.lt _ h.symm).1; omega)).trans HZ2.out)
  have hcap := own_cap g1
  clear g1 g2
  go_wp2_with (go_at_call 64; refine stop ?_)
  unfold Stop
  refine (O.out g' cap' w3 HX.out hcap).mono ?_
  rintro e w4 ⟨rfl, hb4⟩
  have HA := Lib.hid (heap_belowT hb4 HZ3.out)
  have HB4 := Lib.hid (HB3.out.trans (hb4.mono HB3.out.size))
  clear hb4
  go_wp2_with (refine wpList_store_row rfl _ _ _ rfl w.heap.size C rfl rfl _ ZIdT HA.out H1.out H2.out H3.out ?_)
  have hA2 := setRow_heap w4 w.heap.size ZIdT C 24 (0, 0) HA.out
  refine bodyPost_ret (v := .agg C) ?_ rfl ⟨rfl, below_setRow HB4.out (Nat.le_refl _) C⟩
  exact results_cell_row Tryz.results36 _ _ w.heap.size _ C (0, 0) _ rfl hA2 Tryz.underlying24 rfl H1.out

end
section
set_option linter.unusedVariables false

open Go.RowKit
attribute [local go_sem ↓] loadAt_id
attribute [local go_sem] rowOf_drew rowOf_drewN run_idLoad
set_option maxRecDepth 100000 in
theorem rowOf_id {w : World} {g : Nat} {d : List B8} {t : TypeId} {fr : Nat × Nat} (hd : d.length = 32) (h : w.heap[g]? = some (.cells (d.map bv).toArray t fr)) : rowOf w g 0 32 = some (d.map bv).toArray := by
  rw [rowOf_block h 0 32 (by simp [hd])]
  simp [List.take_of_length_le, hd]
set_option maxRecDepth 100000 in
set_option maxHeartbeats 4000000 in
theorem rnode_any (a b : List B8) (w : World) (ha : a.length = 32) (hb : b.length = 32) :
    Calls Tryz.prog 35 #[.agg (a.map bv).toArray, .agg (b.map bv).toArray] w fun e w' => e = .returned (.agg ((nodeD a b).map bv).toArray) ∧ Below w.heap.size w w' := by
  obtain ⟨i0, hi, hz0, hz1, hz2⟩ := info_parts info_u8
  obtain ⟨C, hC⟩ : ∃ C, C = ((nodeD a b).map bv).toArray := ⟨_, rfl⟩
  have hC32 : C.size = 32 := by rw [hC]; simp [nodeD_len]
  have H3 := Lib.hid (show C.all (·.oneCell') = true by rw [hC]; exact bvs_one _)
  have H1 := Lib.hid (show (Tryz.prog.info? 24).map (·.size) = some C.size by rw [hC32]; kernel_rfl)
  have H2 := Lib.hid (show ZIdT.size = C.size by rw [hC32]; rfl)
  have O := Lib.hid (fun (g cap : Nat) (w : World) (h : Bts w (some ⟨g, 0, none⟩) (2 :: (longP a ++ longP b))) (hc : 73 ≤ cap) => of_any (some ⟨g, 0, none⟩) cap (2 :: (longP a ++ longP b)) w h (fun h => by cases h) (by simp [longP_len]; omega) (by simp [longP_len]; omega))
  have e1 : (2 :: (longP a ++ longP b)).length = 73 := by simp [longP_len]; omega
  rw [e1] at O
  rw [← hC]
  unfold nodeD at hC
  rw [← hC] at O
  obtain ⟨w1, hw1⟩ : ∃ w1, w1 = ((w.alloc (.cells (a.map bv).toArray 24)).alloc (.cells (b.map bv).toArray 24)).alloc (.cells ZIdT 24) := ⟨_, rfl⟩
  have hb1 : Below w.heap.size w w1 := by rw [hw1]; exact (((Below.refl _ _).alloc (Nat.le_refl _) _).alloc (by simp) _).alloc (by simp; omega) _
  have hs2 : ((w.alloc (.cells (a.map bv).toArray 24)).alloc (.cells (b.map bv).toArray 24)).heap.size = w.heap.size + 2 := by simp
  have hs1 : w1.heap.size = w.heap.size + 3 := by rw [hw1]; simp
  have hz1' : w1.heap[w.heap.size + 2]? = some (.cells ZIdT 24 (0, 0)) := by rw [hw1, ← hs2]; exact heap_alloc_new _ _
  have hlast : Below ((w.alloc (.cells (a.map bv).toArray 24)).alloc (.cells (b.map bv).toArray 24)).heap.size ((w.alloc (.cells (a.map bv).toArray 24)).alloc (.cells (b.map bv).toArray 24)) w1 := by rw [hw1]; exact (Below.refl _ _).alloc (Nat.le_refl _) _
  have ra1 : w1.heap[w.heap.size]? = some (.cells (a.map bv).toArray 24 (0, 0)) := heap_belowT hlast (heap_alloc2_old w _ _)
  have rb1 : w1.heap[w.heap.size + 1]? = some (.cells (b.map bv).toArray 24 (0, 0)) := heap_belowT hlast (heap_alloc2_new w _ _)
  have HB1 := Lib.hid hb1
  have HZ1 := Lib.hid hz1'
  have RA1 := Lib.hid ra1
  have RB1 := Lib.hid rb1
  have HA := Lib.hid ha
  have HBl := Lib.hid hb
  have IA := Lib.hid (fun w => id_any a w ha)
  have IB := Lib.hid (fun w => id_any b w hb)
  have LA := Lib.hid (fun (g cap : Nat) (w : World) (h : Bts w (some ⟨g, 0, none⟩) a) => long_any (some ⟨g, 0, none⟩) cap a w h (fun h => by cases h) (by omega))
  have LB := Lib.hid (fun (g cap : Nat) (w : World) (h : Bts w (some ⟨g, 0, none⟩) b) => long_any (some ⟨g, 0, none⟩) cap b w h (fun h => by cases h) (by omega))
  rw [ha] at LA
  rw [hb] at LB
  clear hC hC32 hb1 hz1' e1 ra1 rb1 hlast hs2 ha hb
  go_enter Tryz.func35, Tryz.ntmps35
  go_upto_region 1 with fail
  have es : w.heap.size + 1 + 1 = w.heap.size + 2 := rfl
  rw [es]
  change Code.wp _ _ _ _ (((w.alloc (.cells (a.map bv).toArray 24)).alloc (.cells (b.map bv).toArray 24)).alloc (.cells ZIdT 24))
  rw [← hw1]
  obtain ⟨w2, hw2⟩ : ∃ w2, w2 = w1.alloc (.cells #[.int .u8 2] 5) := ⟨_, rfl⟩
  have h12 : Below w1.heap.size w1 w2 := by rw [hw2]; exact (Below.refl _ _).alloc (Nat.le_refl _) _
  have r1 : rowOf (w1.alloc (.cells #[.int .u8 2] 5)) w.heap.size 0 32 = some (a.map bv).toArray := by rw [← hw2]; exact rowOf_id HA.out (heap_belowT h12 RA1.out)
  have HO2 := Lib.hid (show w2.ownsRow (w.heap.size + 3) 5 1 (.slice (some ⟨w.heap.size + 3, 0, none⟩) 1 1) 1 [bv 2] by
    have := own_new w1 (w.heap.size + 3) 5 [bv 2] 1 rfl (by omega) (by unfold maxLen; omega)
    rw [hs1] at this; rw [hw2]; exact this)
  have HB2 := Lib.hid (HB1.out.trans (h12.mono HB1.out.size))
  have HZ2 := Lib.hid (heap_belowT h12 HZ1.out)
  have RB2 := Lib.hid (heap_belowT h12 RB1.out)
  have hs2 : w2.heap.size = w.heap.size + 4 := by rw [hw2]; simp [hs1]
  clear h12 hw1
  go_wp2_with (go_at_call 63; refine stop ?_)
  unfold Stop
  rw [← hw2]
  clear hw2 r1
  generalize Value.slice (some ⟨w.heap.size + 3, 0, none⟩) 1 1 = v3 at *
  refine (IA.out w2).mono ?_
  rintro e w3 ⟨v8, rfl, ho, hb⟩
  obtain ⟨g, cap, rfl, hg1, hg2⟩ := ho.form (by omega)
  have HX := Lib.hid (own_bts ho)
  have HO3 := Lib.hid (own_below HO2.out hb)
  have HB3 := Lib.hid (HB2.out.trans (hb.mono HB2.out.size))
  have HZ3 := Lib.hid (heap_belowT hb HZ2.out)
  have RB3 := Lib.hid (heap_belowT hb RB2.out)
  have hs3 := hb.size
  clear ho hb
  go_wp2_with (go_at_call 62; refine stop ?_)
  unfold Stop
  refine (LA.out g cap w3 HX.out).mono ?_
  rintro e w4 ⟨v9, rfl, ho, hb⟩
  obtain ⟨g', cap', rfl, hg3, hg4⟩ := ho.form (by omega)
  have HX4 := Lib.hid (own_bts ho)
  have HO4 := Lib.hid (own_below HO3.out hb)
  have HB4 := Lib.hid (HB3.out.trans (hb.mono HB3.out.size))
  have HZ4 := Lib.hid (heap_belowT hb HZ3.out)
  have RB4 := Lib.hid (heap_belowT hb RB3.out)
  have hs4 := hb.size
  clear ho hb
  go_wp2_with (at_builtin; refine stop ?_)
  unfold Stop
  have hla : (longB a).length = 36 := by rw [long_len, HA.out]
  have hlb : (longB b).length = 36 := by rw [long_len, HBl.out]
  refine wpList_append_any (o := ⟨some 10, _, _, _, _, _⟩) rfl _ _ 22 rfl (w.heap.size + 3) 5 i0 (.int .u8 0) 1 Tryz.underlying22 hi hz0 hz1 hz2 rfl _ 1 _ rfl HO4.out (some ⟨g', 0, none⟩) (4 + 32) cap' ((longB a).map bv) rfl (fun h => by cases h) (by rw [List.length_map, hla]) HX4.out (bv_one _) ?_ ?_ ?_ ?_
  · unfold maxLen; omega
  · omega
  · omega
  intro v6 w5 g1 g2
  have HO5 := Lib.hid g1
  have HB5 := Lib.hid (HB4.out.grown g2 (by omega) (fun k hk => by have := (HO4.out.lt k hk).1; omega))
  have HZ5 := Lib.hid ((g2.block _ (lt_of_block HZ4.out) (fun h => by have := (HO4.out.lt _ h.symm).1; omega)).trans HZ4.out)
  have RB5 := (g2.block _ (lt_of_block RB4.out) (fun h => by have := (HO4.out.lt _ h.symm).1; omega)).trans RB4.out
  have hs5 := g2.size
  clear g1 g2
  have r1 := rowOf_id HBl.out RB5
  clear RB5
  go_wp2_with (go_at_call 63; refine stop ?_)
  unfold Stop
  refine (IB.out w5).mono ?_
  rintro e w6 ⟨v13, rfl, ho, hb⟩
  obtain ⟨g, cap, rfl, hg1, hg2⟩ := ho.form (by omega)
  have HX6 := Lib.hid (own_bts ho)
  have HO6 := Lib.hid (own_below HO5.out hb)
  have HB6 := Lib.hid (HB5.out.trans (hb.mono HB5.out.size))
  have HZ6 := Lib.hid (heap_belowT hb HZ5.out)
  have hs6 := hb.size
  clear ho hb r1
  go_wp2_with (go_at_call 62; refine stop ?_)
  unfold Stop
  refine (LB.out g cap w6 HX6.out).mono ?_
  rintro e w7 ⟨v9, rfl, ho, hb⟩
  obtain ⟨g', cap', rfl, hg3, hg4⟩ := ho.form (by omega)
  have HX7 := Lib.hid (own_bts ho)
  have HO7 := Lib.hid (own_below HO6.out hb)
  have HB7 := Lib.hid (HB6.out.trans (hb.mono HB6.out.size))
  have HZ7 := Lib.hid (heap_belowT hb HZ6.out)
  have hs7 := hb.size
  clear ho hb
  go_wp2_with (at_builtin; refine stop ?_)
  unfold Stop
  refine wpList_append_any (o := ⟨some 15, _, _, _, _, _⟩) rfl _ _ 22 rfl (w.heap.size + 3) 5 i0 (.int .u8 0) 1 Tryz.underlying22 hi hz0 hz1 hz2 rfl _ (1 + (4 + 32)) _ rfl HO7.out (some ⟨g', 0, none⟩) (4 + 32) cap' ((longB b).map bv) rfl (fun h => by cases h) (by rw [List.length_map, hlb]) HX7.out (bv_one _) ?_ ?_ ?_ ?_
  · unfold maxLen; omega
  · omega
  · omega
  intro v16 w8 g1 g2
  obtain ⟨g', cap', rfl, hg3, hg4⟩ := World.ownsRow.form g1 (by omega)
  have hcap := own_cap g1
  have HX8 := Lib.hid (show Bts w8 (some ⟨g', 0, none⟩) (2 :: (longP a ++ longP b)) from own_bts (l := 2 :: (longP a ++ longP b)) (by
    have e : [bv 2] ++ (longB a).map bv ++ (longB b).map bv = (2 :: (longP a ++ longP b)).map bv := by simp [longB, longP]
    rw [e] at g1; exact g1))
  have HB8 := Lib.hid (HB7.out.grown g2 (by omega) (fun k hk => by have := (HO7.out.lt k hk).1; omega))
  have HZ8 := Lib.hid ((g2.block _ (lt_of_block HZ7.out) (fun h => by have := (HO7.out.lt _ h.symm).1; omega)).trans HZ7.out)
  clear g1 g2
  go_wp2_with (go_at_call 64; refine stop ?_)
  unfold Stop
  refine (O.out g' cap' w8 HX8.out hcap).mono ?_
  rintro e w9 ⟨rfl, hb9⟩
  have HA9 := Lib.hid (heap_belowT hb9 HZ8.out)
  have HB9 := Lib.hid (HB8.out.trans (hb9.mono HB8.out.size))
  clear hb9
  go_wp2_with (refine wpList_store_row rfl _ _ _ rfl (w.heap.size + 2) C rfl rfl _ ZIdT HA9.out H1.out H2.out H3.out ?_)
  have hA2 := setRow_heap w9 (w.heap.size + 2) ZIdT C 24 (0, 0) HA9.out
  refine bodyPost_ret (v := .agg C) ?_ rfl ⟨rfl, below_setRow HB9.out (by omega) C⟩
  exact results_cell_row Tryz.results35 _ _ (w.heap.size + 2) _ C (0, 0) _ rfl hA2 Tryz.underlying24 rfl H1.out

end
section
set_option linter.unusedVariables false

open Go.RowKit
set_option maxRecDepth 100000 in
theorem LstN.front {w : World} {A : Option Addr} {ls : List (List B8)} (h : LstN w A ls) (n : Nat) : LstN w A (ls.take n) := fun i xs hi => by
  rw [List.getElem?_take] at hi
  split at hi
  · exact h i xs hi
  · cases hi
set_option maxRecDepth 100000 in
theorem LstN.cut {w : World} {A : Option Addr} {ls : List (List B8)} (h : LstN w A ls) (cap n : Nat) (hc : ls.length ≤ cap) : LstN w (cutA A cap n) (ls.drop n) := fun i xs hi => by
  rw [List.getElem?_drop] at hi
  obtain ⟨ad, Ai, ci, rfl, hcl, h1, h2, h3⟩ := h (n + i) xs hi
  have hlt := (List.getElem?_eq_some_iff.1 hi).1
  refine ⟨ad.add n, Ai, ci, ?_, by rw [add_add]; exact hcl, h1, h2, h3⟩
  unfold cutA
  rw [if_neg (by omega)]; rfl
set_option maxRecDepth 100000 in
theorem cutA_none {A : Option Addr} {c n : Nat} (hA : A = none → c = 0) (h : cutA A c n = none) : c - n = 0 := by
  unfold cutA at h
  split at h
  · omega
  · cases A with
    | none => have := hA rfl; omega
    | some a => cases h
set_option maxRecDepth 100000 in
theorem lstn_stp {w w' : World} {A : Option Addr} {ls : List (List B8)} (h : LstN w A ls) (hs : Stp w w') : LstN w' A ls := h.below hs
set_option maxRecDepth 100000 in
set_option maxHeartbeats 2000000 in
theorem rroot_small (ls : List (List B8)) (h2 : ¬ 2 ≤ ls.length) (h60 : ∀ xs ∈ ls, xs.length ≤ 1000000) (A : Option Addr) (c : Nat) (w : World) (hL : LstN w A ls) (hc : ls.length ≤ c) (hA : A = none → c = 0) :
    Calls Tryz.prog 53 #[.slice A ls.length c] w fun e w' => e = .returned (.agg ((rootD ls).map bv).toArray) ∧ Below w.heap.size w w' := by
  obtain ⟨C, hC⟩ : ∃ C, C = ((rootD ls).map bv).toArray := ⟨_, rfl⟩
  have hC32 : C.size = 32 := by rw [hC]; simp [rootD_len]
  have H3 := Lib.hid (show C.all (·.oneCell') = true by rw [hC]; exact bvs_one _)
  have H1 := Lib.hid (show (Tryz.prog.info? 24).map (·.size) = some C.size by rw [hC32]; kernel_rfl)
  have H2 := Lib.hid (show ZIdT.size = C.size by rw [hC32]; rfl)
  obtain ⟨w1, hw1⟩ : ∃ w1, w1 = w.alloc (.cells ZIdT 24) := ⟨_, rfl⟩
  have hs1 : w1.heap.size = w.heap.size + 1 := by rw [hw1]; simp
  have hb1 : Below w.heap.size w w1 := by rw [hw1]; exact (Below.refl _ _).alloc (Nat.le_refl _) _
  have hz1 : w1.heap[w.heap.size]? = some (.cells ZIdT 24 (0, 0)) := by rw [hw1]; exact heap_alloc_new w _
  have HB1 := Lib.hid hb1
  have HZ1 := Lib.hid hz1
  have HL1 := hL.below hb1
  rw [← hC]
  rcases ls with _ | ⟨x, _ | ⟨y, l⟩⟩
  · rw [rootD_nil] at hC
    obtain ⟨w2, hw2⟩ : ∃ w2, w2 = w1.alloc (.cells #[.int .u8 0] 5) := ⟨_, rfl⟩
    have hb2 : Below w1.heap.size w1 w2 := by rw [hw2]; exact (Below.refl _ _).alloc (Nat.le_refl _) _
    have ho : w2.ownsRow 0 5 1 (.slice (some ⟨w1.heap.size, 0, none⟩) 1 1) 1 ([0].map bv) := by
      have := own_new w1 0 5 [bv 0] 1 rfl (by omega) (by unfold maxLen; omega)
      rw [hw2]; exact this
    have U := Lib.hid (of_any (some ⟨w1.heap.size, 0, none⟩) 1 [0] w2 (own_bts ho) (fun h => by cases h) (by decide) (by decide))
    rw [← hC, hs1] at U
    have HB2 := Lib.hid (hb1.trans (hb2.mono hb1.size))
    have HZ2 := Lib.hid (heap_belowT hb2 hz1)
    clear hb1 hz1 hL hC hC32 ho hb2
    go_enter Tryz.func53, Tryz.ntmps53
    go_upto_region 2 with fail
    rw [← hw1]
    clear hw1
    go_wp2_with (go_at_call 64; refine stop ?_)
    unfold Stop
    rw [← hw2]
    refine U.out.mono ?_
    rintro e w3 ⟨rfl, hb3⟩
    have HA := Lib.hid (heap_belowT hb3 HZ2.out)
    have HB3 := Lib.hid (HB2.out.trans (hb3.mono HB2.out.size))
    clear hb3
    go_wp2_with (refine wpList_store_row rfl _ _ _ rfl w.heap.size C rfl rfl _ ZIdT HA.out H1.out H2.out H3.out ?_)
    have hA2 := setRow_heap w3 w.heap.size ZIdT C 24 (0, 0) HA.out
    refine bodyPost_ret (v := .agg C) ?_ rfl ⟨rfl, below_setRow HB3.out (Nat.le_refl _) C⟩
    exact results_cell_row Tryz.results53 _ _ w.heap.size _ C (0, 0) _ rfl hA2 Tryz.underlying24 rfl H1.out
  · rw [rootD_one] at hC
    obtain ⟨ad, Ai, ci, rfl, hcl, hci, hAi, hbt⟩ := HL1 0 x rfl
    have e0 : ad.add 0 = ad := by unfold Addr.add; simp
    rw [e0] at hcl
    have h60' := h60 x (by simp)
    have R := Lib.hid (rleaf_any Ai ci x w1 hbt hAi hci (by omega))
    rw [← hC] at R
    clear hb1 hz1 hL hC hC32 hbt HL1 h60 hc hA hAi
    go_enter Tryz.func53, Tryz.ntmps53
    go_upto_region 4 with fail
    rw [← hw1]
    clear hw1
    go_wp2_with (go_at_call 36; refine stop ?_)
    unfold Stop
    refine R.out.mono ?_
    rintro e w2 ⟨rfl, hb3⟩
    have HA := Lib.hid (heap_belowT hb3 HZ1.out)
    have HB3 := Lib.hid (HB1.out.trans (hb3.mono HB1.out.size))
    clear hb3
    go_wp2_with (refine wpList_store_row rfl _ _ _ rfl w.heap.size C rfl rfl _ ZIdT HA.out H1.out H2.out H3.out ?_)
    have hA2 := setRow_heap w2 w.heap.size ZIdT C 24 (0, 0) HA.out
    refine bodyPost_ret (v := .agg C) ?_ rfl ⟨rfl, below_setRow HB3.out (Nat.le_refl _) C⟩
    exact results_cell_row Tryz.results53 _ _ w.heap.size _ C (0, 0) _ rfl hA2 Tryz.underlying24 rfl H1.out
  · simp at h2
set_option maxRecDepth 100000 in
set_option maxHeartbeats 2000000 in
theorem rroot_any : ∀ (N : Nat) (ls : List (List B8)), ls.length ≤ N → ls.length ≤ 1000000 → (∀ xs ∈ ls, xs.length ≤ 1000000) → ∀ (A : Option Addr) (c : Nat) (w : World), LstN w A ls → ls.length ≤ c → (A = none → c = 0) →
    Calls Tryz.prog 53 #[.slice A ls.length c] w fun e w' => e = .returned (.agg ((rootD ls).map bv).toArray) ∧ Below w.heap.size w w' := by
  intro N
  induction N with
  | zero =>
    intro ls hN hm h60 A c w hL hc hA
    exact rroot_small ls (by omega) h60 A c w hL hc hA
  | succ N ih =>
    intro ls hN hm h60 A c w hL hc hA
    by_cases h2 : 2 ≤ ls.length
    · have hh := hp_lt h2
      have hh1 := hp_pos ls.length
      have F := Lib.hid (fun w => half_any ls.length w h2 (by omega))
      have eR := rootD_more h2
      have sh := slicel_hi A ls.length c (hp ls.length) (by omega) hc
      have sl := slicel_lo A ls.length c (hp ls.length) (by omega)
      have lk : (ls.take (hp ls.length)).length = hp ls.length := by simp; omega
      have ld : (ls.drop (hp ls.length)).length = ls.length - hp ls.length := by simp
      have R1 := Lib.hid (fun (w : World) (hL : LstN w A ls) => ih (ls.take (hp ls.length)) (by omega) (by omega) (fun xs hx => h60 xs (List.mem_of_mem_take hx)) A c w (hL.front _) (by omega) hA)
      have R2 := Lib.hid (fun (w : World) (hL : LstN w A ls) => ih (ls.drop (hp ls.length)) (by omega) (by omega) (fun xs hx => h60 xs (List.mem_of_mem_drop hx)) (cutA A c (hp ls.length)) (c - hp ls.length) w (hL.cut c _ hc) (by omega) (cutA_none hA))
      rw [lk] at R1
      rw [ld] at R2
      have J := Lib.hid (fun w => rnode_any (rootD (ls.take (hp ls.length))) (rootD (ls.drop (hp ls.length))) w (rootD_len _) (rootD_len _))
      rw [← eR] at J
      obtain ⟨C1, hC1⟩ : ∃ C, C = ((rootD (ls.take (hp ls.length))).map bv).toArray := ⟨_, rfl⟩
      obtain ⟨C2, hC2⟩ : ∃ C, C = ((rootD (ls.drop (hp ls.length))).map bv).toArray := ⟨_, rfl⟩
      obtain ⟨C, hC⟩ : ∃ C, C = ((rootD ls).map bv).toArray := ⟨_, rfl⟩
      have hC32 : C.size = 32 := by rw [hC]; simp [rootD_len]
      have H3 := Lib.hid (show C.all (·.oneCell') = true by rw [hC]; exact bvs_one _)
      have H1 := Lib.hid (show (Tryz.prog.info? 24).map (·.size) = some C.size by rw [hC32]; kernel_rfl)
      have H2 := Lib.hid (show ZIdT.size = C.size by rw [hC32]; rfl)
      rw [← hC1] at R1 J
      rw [← hC2] at R2 J
      rw [← hC] at J ⊢
      have HL := Lib.hid hL
      have HA := Lib.hid hA
      clear hC hC1 hC2 hC32 eR lk ld hL hA ih h60 hN
      generalize hp ls.length = h at *
      go_enter Tryz.func53, Tryz.ntmps53
      go_wp2_with (go_at_call 55; refine (F.out _).mono ?_; rintro e w' ⟨rfl, rfl⟩)
      obtain ⟨w1, hw1⟩ : ∃ w1, w1 = w.alloc (.cells ZIdT 24) := ⟨_, rfl⟩
      have hb1 : Below w.heap.size w w1 := by rw [hw1]; exact (Below.refl _ _).alloc (Nat.le_refl _) _
      have hz1 : w1.heap[w.heap.size]? = some (.cells ZIdT 24 (0, 0)) := by rw [hw1]; exact heap_alloc_new w _
      have HB1 := Lib.hid hb1
      have HZ1 := Lib.hid hz1
      have HL1 := Lib.hid (show LstN w1.drew A ls from HL.out.below hb1.drew)
      rw [← hw1]
      clear hb1 hz1 hw1
      refine wp_region_rel_tail 9 28 (by kernel_rfl) (by kernel_rfl) Stp [.one ?_, .one ?_, .one ?_, .one ?_, .one ?_, .one ?_, .one ?_, .one ?_, .one ?_] (by kernel_rfl) rfl (by kernel_rfl) Stp.refl Stp.trans trivial ?main
      case main =>
      simp only [List.take_succ_cons, List.take_zero, List.drop_succ_cons, List.drop_zero]
      iterate 3
        refine wpR_one (A' := ?_) Stp.refl (by rfl) _ rfl 28 (by rfl) (by rfl) ?_ ?_ ?_
        rotate_left 1
        · simp only [Act.put, List.setIfInBounds_toArray, List.set_cons_zero, List.set_cons_succ]; rfl
        · intro w1 hs hf K hK
          go_big_quiet_op
          first
            | go_big_quiet_on
            | (refine ⟨_, fun _ _ => rfl, ?_⟩; go_big_quiet_on)
          rfl
      refine wpR_one (A' := ?_) Stp.refl (by rfl) _ rfl 28 (by rfl) (by rfl) ?_ ?_ ?_
      rotate_left 1
      · simp only [Act.put, List.setIfInBounds_toArray, List.set_cons_zero, List.set_cons_succ]; rfl
      · intro w1 hs hf K hK
        have hl1 := Lib.hid (lstn_stp HL1.out hs)
        go_big_quiet_op
        apply Exists.intro
        refine ⟨fun w2 h2 => ?_, ?_⟩
        · refine (R1.out w2 (lstn_stp hl1.out h2)).mono ?_
          rintro e w3 ⟨rfl, h3⟩
          exact ⟨rfl, Stp.trans _ _ _ h2 h3⟩
        · go_big_quiet_on
          rfl
      iterate 3
        refine wpR_one (A' := ?_) Stp.refl (by rfl) _ rfl 28 (by rfl) (by rfl) ?_ ?_ ?_
        rotate_left 1
        · simp only [Act.put, List.setIfInBounds_toArray, List.set_cons_zero, List.set_cons_succ]; rfl
        · intro w1 hs hf K hK
          go_big_quiet_op
          first
            | go_big_quiet_on
            | (refine ⟨_, fun _ _ => rfl, ?_⟩; go_big_quiet_on)
          rfl
      refine wpR_one (A' := ?_) Stp.refl (by rfl) _ rfl 28 (by rfl) (by rfl) ?_ ?_ ?_
      rotate_left 1
      · simp only [Act.put, List.setIfInBounds_toArray, List.set_cons_zero, List.set_cons_succ]; rfl
      · intro w1 hs hf K hK
        have hl1 := Lib.hid (lstn_stp HL1.out hs)
        go_big_quiet_op
        apply Exists.intro
        refine ⟨fun w2 h2 => ?_, ?_⟩
        · refine (R2.out w2 (lstn_stp hl1.out h2)).mono ?_
          rintro e w3 ⟨rfl, h3⟩
          exact ⟨rfl, Stp.trans _ _ _ h2 h3⟩
        · go_big_quiet_on
          rfl
      refine wpR_one (A' := ?_) Stp.refl (by rfl) _ rfl 28 (by rfl) (by rfl) ?_ ?_ ?_
      rotate_left 1
      · simp only [Act.put, List.setIfInBounds_toArray, List.set_cons_zero, List.set_cons_succ]; rfl
      · intro w1 hs hf K hK
        have hl1 := Lib.hid (lstn_stp HL1.out hs)
        go_big_quiet_op
        apply Exists.intro
        refine ⟨fun w2 h2 => ?_, ?_⟩
        · refine (J.out w2).mono ?_
          rintro e w3 ⟨rfl, h3⟩
          exact ⟨rfl, Stp.trans _ _ _ h2 h3⟩
        · go_big_quiet_on
          rfl
      intro w9 hs hf
      have HB9 := Lib.hid (stp_start hs HB1.out)
      have HZ9 := Lib.hid (heap_belowT hs HZ1.out)
      clear hs hf
      go_wp2_with (refine wpList_store_row rfl _ _ _ rfl w.heap.size C rfl rfl _ ZIdT HZ9.out H1.out H2.out H3.out ?_)
      have hA2 := setRow_heap w9 w.heap.size ZIdT C 24 (0, 0) HZ9.out
      refine bodyPost_ret (v := .agg C) ?_ rfl ⟨rfl, below_setRow HB9.out (Nat.le_refl _) C⟩
      exact results_cell_row Tryz.results53 _ _ w.heap.size _ C (0, 0) _ rfl hA2 Tryz.underlying24 rfl H1.out
    · exact rroot_small ls h2 h60 A c w hL hc hA

end
end
end Go.Proofs.YthoaaieiiokcmaaGreatDoor
