/- A row of blocks in plain words, and rows of headers in memory. -/
import Derived.Test.YtoagneibaincpaaDoorHkG
import Derived.Laws.AppendOwnNone
import Derived.Great.BuildSlice
set_option linter.unusedVariables false
set_option linter.unusedSimpArgs false
namespace Go.Proofs.YtoagneibaincpaaDoor
open Go.RowKit
set_option maxRecDepth 100000 in
theorem pick_any (x : Int) (n : Nat) (w : World) (h1 : 1 ≤ n) (h2 : n ≤ 1099511627776) :
    Calls Tryd.prog 23 #[.int .i64 x, .int .i64 (n : Int)] w fun e w' => (∃ k : Nat, k < n ∧ e = .returned (.int .i64 (k : Int))) ∧ w' = w := by
  have b1 : -(n : Int) < x.tmod n := Int.lt_tmod_of_pos x (by omega)
  have b2 : x.tmod n < (n : Int) := Int.tmod_lt_of_pos x (by omega)
  have hn : ¬ (n : Int) < 1 := by omega
  obtain ⟨r, hr⟩ : ∃ r, r = x.tmod n := ⟨_, rfl⟩
  rw [← hr] at b1 b2
  have hr2 := hr.symm
  have HR := Lib.hid hr
  clear hr
  by_cases h0 : r < 0
  · go_enter Tryd.func23, Tryd.ntmps23
    go_wp2
    go_ret
    refine ⟨⟨(r + n).toNat, by omega, ?_⟩, rfl⟩
    show Ending.returned (Value.int .i64 (r + (n : Int))) = _
    rw [Int.toNat_of_nonneg (by omega)]
  · go_enter Tryd.func23, Tryd.ntmps23
    go_wp2
    go_ret
    refine ⟨⟨r.toNat, by omega, ?_⟩, rfl⟩
    show Ending.returned (Value.int .i64 r) = _
    rw [Int.toNat_of_nonneg (by omega)]
theorem beq0 (k : Nat) : ((k : Int) == 0) = (k == 0) := by
  by_cases h : k = 0
  · subst h; rfl
  · have a : ((k : Int) == 0) = false := by rw [beq_eq_false_iff_ne]; omega
    have b : (k == 0) = false := by rw [beq_eq_false_iff_ne]; exact h
    rw [a, b]
/-- The entry of a row's block. -/
def EK (i : Nat) : Ent := ⟨3, 0, zeros 32, 0, 0, (i : Int)⟩
theorem EK_d (i : Nat) : (EK i).d.length = 32 := rfl
theorem okL_EK (i : Nat) (h : i ≤ 100) : okL (EK i) i := by
  unfold okL okB EK
  simp only
  omega
/-- A block's leaves in a row. -/
def lvs (xs : List B8) (i : Nat) : List (List B8) := [xs, formE (EK i), numB i]
theorem lvs_small (xs : List B8) (i : Nat) (h : i ≤ 100) (hx : xs.length ≤ 1000000) : ∀ y ∈ lvs xs i, y.length ≤ 1000000 := by
  intro y hy
  unfold lvs at hy
  simp only [List.mem_cons, List.not_mem_nil, or_false] at hy
  rcases hy with rfl | rfl | rfl
  · exact hx
  · have := ent_le (EK i) (EK_d i) (okL_EK i h).1; omega
  · have := numB_le (n := i) (by omega); omega
/-- The header of a row's block behind another one. -/
def hdN (prev : Hdr) (xs : List B8) (i : Nat) : Hdr := nxB prev (i == 0) (rootD (lvs xs i)) 5 (i : Int)
theorem hdN_L (prev : Hdr) (xs : List B8) (i : Nat) : (hdN prev xs i).L := nxB_L _ _ _ _ _ (rootD_len _)
/-- A row's headers. -/
def hAt (ls : List (List B8)) : Nat → Hdr
  | 0 => hdN HZ (ls.getD 0 []) 0
  | i + 1 => hdN (hAt ls i) (ls.getD (i + 1) []) (i + 1)
def pvH (ls : List (List B8)) : Nat → Hdr
  | 0 => HZ
  | i + 1 => hAt ls i
theorem hAt_eq (ls : List (List B8)) (i : Nat) : hAt ls i = hdN (pvH ls i) (ls.getD i []) i := by cases i <;> rfl
theorem hAt_L (ls : List (List B8)) (i : Nat) : (hAt ls i).L := by rw [hAt_eq]; exact hdN_L _ _ _
theorem pvH_L (ls : List (List B8)) (i : Nat) : (pvH ls i).L := by
  cases i
  · exact HZ_L
  · exact hAt_L _ _
theorem hdN_nums (prev : Hdr) (xs : List B8) (i : Nat) (h : i = 0 ∨ (prev.s = 5 ∧ prev.t = (i : Int))) : (hdN prev xs i).s = 5 ∧ (hdN prev xs i).t = (i : Int) + 1 ∧ (hdN prev xs i).p = (i : Int) := by
  unfold hdN nxB
  by_cases h0 : i = 0
  · subst h0; exact ⟨rfl, rfl, rfl⟩
  · have e : (i == 0) = false := by simpa using h0
    rw [e]
    rcases h with h | h
    · exact absurd h h0
    · refine ⟨h.1, ?_, rfl⟩
      show prev.t + 1 = _
      rw [h.2]
theorem hAt_nums (ls : List (List B8)) : ∀ i : Nat, (hAt ls i).s = 5 ∧ (hAt ls i).t = (i : Int) + 1 ∧ (hAt ls i).p = (i : Int)
  | 0 => hdN_nums _ _ _ (.inl rfl)
  | i + 1 => by
    have ih := hAt_nums ls i
    exact hdN_nums _ _ _ (.inr ⟨ih.1, by rw [ih.2.1]; omega⟩)
theorem pvH_nums (ls : List (List B8)) (i : Nat) : i = 0 ∨ ((pvH ls i).s = 5 ∧ (pvH ls i).t = (i : Int) ∧ (pvH ls i).p + 1 = (i : Int)) := by
  cases i with
  | zero => exact .inl rfl
  | succ i =>
    have h := hAt_nums ls i
    refine .inr ⟨h.1, ?_, ?_⟩
    · show (hAt ls i).t = _; rw [h.2.1]; omega
    · show (hAt ls i).p + 1 = _; rw [h.2.2]; omega
theorem okN_row (prev : Hdr) (xs : List B8) (i : Nat) (h : i ≤ 100) (hp : i = 0 ∨ (prev.s = 5 ∧ prev.t = (i : Int) ∧ prev.p + 1 = (i : Int))) : okN prev (i == 0) 3 (rootD (lvs xs i)) 5 (i : Int) := by
  have hn := hdN_nums prev xs i (hp.imp id (fun h => ⟨h.1, h.2.1⟩))
  refine ⟨rfl, ?_, ?_⟩
  · by_cases h0 : i = 0
    · exact .inl (by simpa using h0)
    · rcases hp with h1 | h1
      · exact absurd h1 h0
      · refine .inr ⟨?_, by omega⟩
        unfold okH; omega
  · show okH (hdN prev xs i)
    unfold okH; omega
theorem nxV_row (prev : Hdr) (xs : List B8) (i : Nat) (h : i ≤ 100) (hp : i = 0 ∨ (prev.s = 5 ∧ prev.t = (i : Int) ∧ prev.p + 1 = (i : Int))) : nxV prev (i == 0) 3 (rootD (lvs xs i)) 5 (i : Int) = hdN prev xs i := if_pos (okN_row prev xs i h hp)
theorem fol_row (ls : List (List B8)) (i : Nat) (h0 : i ≠ 0) (h : i ≤ 100) : folK (pvH ls i) (hAt ls i) := by
  have hn := hAt_nums ls i
  have hp := pvH_nums ls i
  have hd : (hAt ls i).d = hid (pvH ls i) := by
    rw [hAt_eq]
    unfold hdN nxB
    have e : (i == 0) = false := by simpa using h0
    rw [e]; rfl
  rcases hp with hp | hp
  · exact absurd hp h0
  · unfold folK
    refine ⟨by unfold okH; omega, by unfold okH; omega, by omega, by omega, by omega, hd⟩
theorem next_d (ls : List (List B8)) (i : Nat) : (hAt ls (i + 1)).d = hid (hAt ls i) := rfl
theorem row_get (ls : List (List B8)) (i : Nat) (x : List B8) (h : ls[i]? = some x) : ls.getD i [] = x := by
  rw [List.getD_eq_getElem?_getD, h]; rfl
theorem foldl_set : ∀ (l : List Value) (n : Nat) (acc : Array Value), acc.size = n + l.length → ((l.zipIdx n).foldl (fun cs x => cs.setIfInBounds x.snd x.fst) acc).toList = acc.toList.take n ++ l
  | [], n, acc, h => by
    have h1 : acc.toList.length ≤ n := by simp at h ⊢; omega
    simp [List.take_of_length_le h1]
  | x :: l, n, acc, h => by
    rw [List.zipIdx_cons, List.foldl_cons, foldl_set l (n + 1) _ (by simp at h ⊢; omega), Array.toList_setIfInBounds]
    have hn : n < acc.toList.length := by simp at h ⊢; omega
    have e : (acc.toList.set n x).take (n + 1) = acc.toList.take n ++ [x] := by
      rw [List.take_succ_eq_append_getElem (by simpa using hn)]
      simp [List.take_set_of_le]
    rw [e, List.append_assoc]; rfl
theorem foldl_set0 (l : List Value) (acc : Array Value) (h : acc.size = l.length) : (l.zipIdx.foldl (fun cs x => cs.setIfInBounds x.snd x.fst) acc) = l.toArray := by
  apply Array.ext'
  rw [foldl_set l 0 acc (by omega)]; simp
theorem info_hd : (Tryd.prog.info? 25).map (fun i => (i.zero, i.size, i.bytes)) = some (some (.agg Z67H), 67, 88) := by kernel_rfl
set_option maxRecDepth 100000 in
theorem build_hd (l : List Value) (hl : l.length = 67) (w : World) : (Instr.buildSlice 52 1 #[(0, .agg l.toArray)]).run Tryd.prog w = .ok (.slice (some ⟨w.heap.size, 0, none⟩) 1 1) (w.alloc (.cells l.toArray 25)) := by
  obtain ⟨i0, hi, hz0, hz1, hz2⟩ := info_parts info_hd
  have hf := foldl_set0 l Z67H (by rw [hl]; rfl)
  refine run_buildSlice w 52 25 1 _ _ i0 (.agg Z67H) Tryd.underlying52 hi hz0 (by rw [hz1]; decide) (by rw [hz1]; decide) ?_
  rw [hz1]
  have e : ((Array.range (1 * 67)).map fun x => (Value.agg Z67H).cells[x % (Value.agg Z67H).cells.size]!) = Z67H := by kernel_rfl
  rw [e]
  have hcs : (Value.agg l.toArray).cells = l.toArray := rfl
  simp [Instr.fill, hcs, hl]
  first
    | exact hf
    | exact ⟨Nat.le_of_eq rfl, hf⟩
theorem wpList_build_hd {ops : Array Oper} {rest : List Oper} {o : Oper} {a : Act} {w : World} {Q : Exit → Act → World → Prop} (hgd : o.guard = none) (l : List Value) (hl : l.length = 67) (C : Array Value) (hC : C = l.toArray) (parts : Array (Nat × Operand)) (ho : o.op = .buildSlice 52 1 parts)
    (hp' : (parts.toList.map fun p => (p.1, a.eval p.2)) = [(0, .agg C)]) (h : wpList Tryd.prog ops Q rest (a.put o.dst (.slice (some ⟨w.heap.size, 0, none⟩) 1 1)) (w.alloc (.cells C 25))) : wpList Tryd.prog ops Q (o :: rest) a w := by
  subst hC
  have hp : (parts.map fun (i, x) => (i, a.eval x)) = #[(0, .agg l.toArray)] := by
    apply Array.ext'
    rw [Array.toList_map]
    exact hp'
  refine wpList_plain hgd fun K hK => ?_
  unfold Oper.wp execOp
  simp only [ho, hp, Sem.run_bind, build_hd l hl w, Result.andThen_ok]
  exact hK _ _ h
def hsC (hs : List Hdr) : List Value := hs.flatMap Hdr.cells
theorem hsC_at : ∀ (hs : List Hdr) (h : ∀ g ∈ hs, g.L) (i : Nat) (g : Hdr), hs[i]? = some g → ∀ j, j < 67 → (hsC hs)[i * 67 + j]? = g.cells[j]?
  | [], _, i, d, hi, _, _ => by simp at hi
  | x :: l, h, 0, d, hi, j, hj => by
    obtain rfl : x = d := by simpa using hi
    have hx := x.len (h x (by simp))
    unfold hsC
    rw [List.flatMap_cons, List.getElem?_append_left (by omega)]
    congr 1; omega
  | x :: l, h, i + 1, d, hi, j, hj => by
    have hx := x.len (h x (by simp))
    have := hsC_at l (fun y hy => h y (by simp [hy])) i d (by simpa using hi) j hj
    unfold hsC at *
    rw [List.flatMap_cons, List.getElem?_append_right (by omega), hx, show (i + 1) * 67 + j - 67 = i * 67 + j by omega]
    exact this
/-- The headers of a row, so many of them. -/
def hsN (ls : List (List B8)) (k : Nat) : List Hdr := (List.range k).map (hAt ls)
theorem hsN_len (ls : List (List B8)) (k : Nat) : (hsN ls k).length = k := by simp [hsN]
theorem hsN_L (ls : List (List B8)) (k : Nat) : ∀ g ∈ hsN ls k, g.L := by
  intro g hg
  obtain ⟨i, -, rfl⟩ := List.mem_map.1 hg
  exact hAt_L ls i
theorem hsN_at (ls : List (List B8)) (k j : Nat) (h : j < k) : (hsN ls k)[j]? = some (hAt ls j) := by
  unfold hsN
  rw [List.getElem?_map, List.getElem?_range h]; rfl
theorem hsN_succ (ls : List (List B8)) (k : Nat) : hsC (hsN ls (k + 1)) = hsC (hsN ls k) ++ (hAt ls k).cells := by
  unfold hsN hsC
  rw [List.range_succ, List.map_append, List.flatMap_append]
  simp
theorem turn_own67 {S : Nat → Prop} {a b : World} (h : Turn S a b) {base n s : Nat} {e : TypeId} {v : Value} {xs : List Value} (ho : a.ownsRow base e s v n xs) (hn : ∀ g, v.ownBlock = some g → ¬ S g) : b.ownsRow base e s v n xs := by
  obtain ⟨h1, h2⟩ := ho
  refine ⟨h1, ?_⟩
  rcases h2 with h2 | ⟨g, cap, cur, rfl, hg, hh, r⟩
  · exact .inl h2
  · exact .inr ⟨g, cap, cur, rfl, hg, h.heap hh (hn g rfl), r⟩
theorem row_range {w : World} {B g n k c : Nat} {ls : List (List B8)} (h : w.ownsRow B 25 67 (.slice (some ⟨g, 0, none⟩) n c) n (hsC (hsN ls k))) (j : Nat) (hj : j < k) : w.rangeAt g (j * 67) (hAt ls j).cells := fun q v hq => by
  have hq67 : q < 67 := by have := (List.getElem?_eq_some_iff.1 hq).1; rw [Hdr.len _ (hAt_L ls j)] at this; exact this
  have h2 := h.cells (g := g) rfl (j * 67 + q) v (by rw [hsC_at _ (hsN_L ls k) j _ (hsN_at ls k j hj) q hq67]; exact hq)
  have e4 : (⟨g, 0, none⟩ : Addr).add (j * 67 + q) = ⟨g, j * 67 + q, none⟩ := by unfold Addr.add; split <;> simp_all
  rwa [e4] at h2
theorem one67 (e : Hdr) : ∀ u ∈ e.cells, u.oneCell' = true := by
  intro u hu
  have := Hdr.one e
  rw [Array.all_eq_true_iff_forall_mem] at this
  exact this u (by simpa using hu)
set_option maxRecDepth 100000 in
theorem built_ek (i : Int) : Tryd.prog.built 42 [(0, .int .i64 3), (5, .int .i64 i)] = some (Ent.cells ⟨3, 0, zeros 32, 0, 0, i⟩).toArray := by kernel_rfl
end Go.Proofs.YtoagneibaincpaaDoor
