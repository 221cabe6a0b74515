/- Merged: The landed drum: landOn. The landed drum in memory: its sectors, what waits; loads of sectors and of writes as one rule; land. The landed drum: On, Len, Fuse, Fail, Start, Sync over the plain drum. The document's drum: Write. The document's drum: New. -/
import Derived.Test.YtajdcekkmikbcaaDoorM19
import Derived.Laws.CopyOwn
import Derived.IntWalk
import Derived.StillTailTactics
import Derived.Laws.ResultCell
import Derived.Laws.Rows
import Derived.Deep.WholeRow
import Derived.Test.YtajdcekkmikbcaaDoorM18
import Derived.Test.YtajdcekkmikbcaaDoorM08
namespace Go.Proofs.YtajdcekkmikbcaaDoor
section
set_option linter.unusedVariables false
open Go.RowKit
/-- A sector's words up to k have landed. -/
def mixW (t s : Sec) (m : B8) (k : Nat) : Sec := (tornS t s m).take (8 * k) ++ t.drop (8 * k)
set_option maxRecDepth 100000 in
theorem mixW_len (t s : Sec) (m : B8) (k : Nat) (ht : t.length = 64) (hk : k ≤ 8) : (mixW t s m k).length = 64 := by
  simp [mixW, tornS_len, ht]; omega
set_option maxRecDepth 100000 in
theorem mixW_at (t s : Sec) (m : B8) (k i : Nat) (hk : k ≤ 8) : (mixW t s m k)[i]? = if i < 8 * k then (tornS t s m)[i]? else t[i]? := by
  unfold mixW
  rw [List.getElem?_append]
  simp only [List.length_take, tornS_len]
  rw [Nat.min_eq_left (by omega)]
  split
  · rw [List.getElem?_take, if_pos (by assumption)]
  · rw [List.getElem?_drop]; congr 1; omega
set_option maxRecDepth 100000 in
theorem mixW_no (t s : Sec) (m : B8) (k : Nat) (ht : t.length = 64) (hk : k < 8) (hm : m.getLsbD k = false) : mixW t s m (k + 1) = mixW t s m k := by
  apply List.ext_getElem?
  intro i
  rw [mixW_at _ _ _ _ _ (by omega), mixW_at _ _ _ _ _ (by omega)]
  by_cases h1 : i < 8 * k
  · rw [if_pos (by omega), if_pos h1]
  · by_cases h2 : i < 8 * (k + 1)
    · rw [if_pos h2, if_neg h1, tornS_at _ _ _ _ (by omega), show i / 8 = k by omega, hm]
      simp only [Bool.false_eq_true, if_false]
      rw [List.getD_eq_getElem?_getD, List.getElem?_eq_getElem (by omega)]; rfl
    · rw [if_neg h2, if_neg h1]
set_option maxRecDepth 100000 in
theorem mixW_yes (t s : Sec) (m : B8) (k : Nat) (ht : t.length = 64) (hs : s.length = 64) (hk : k < 8) (hm : m.getLsbD k = true) :
    mixW t s m (k + 1) = (mixW t s m k).take (8 * k) ++ ((s.drop (8 * k)).take 8 ++ (mixW t s m k).drop (8 * k + 8)) := by
  apply List.ext_getElem?
  intro i
  have hl := mixW_len t s m k ht (by omega)
  rw [mixW_at _ _ _ _ _ (by omega), List.getElem?_append, List.length_take, hl, Nat.min_eq_left (by omega)]
  by_cases h1 : i < 8 * k
  · rw [if_pos (by omega), if_pos h1, List.getElem?_take, if_pos h1, mixW_at _ _ _ _ _ (by omega), if_pos h1]
  · rw [if_neg h1, List.getElem?_append, List.length_take, List.length_drop, hs, Nat.min_eq_left (by omega)]
    by_cases h2 : i < 8 * (k + 1)
    · rw [if_pos h2, if_pos (by omega), tornS_at _ _ _ _ (by omega), show i / 8 = k by omega, hm, if_pos rfl, List.getElem?_take, if_pos (by omega), List.getElem?_drop, show 8 * k + (i - 8 * k) = i by omega]
      rw [List.getD_eq_getElem?_getD, List.getElem?_eq_getElem (by omega)]; rfl
    · rw [if_neg h2, if_neg (by omega), List.getElem?_drop, mixW_at _ _ _ _ _ (by omega), if_neg (by omega)]
      congr 1; omega
set_option maxRecDepth 100000 in
theorem mixW_zero (t s : Sec) (m : B8) : mixW t s m 0 = t := by simp [mixW]
set_option maxRecDepth 100000 in
theorem mixW_all (t s : Sec) (m : B8) (ht : t.length = 64) : mixW t s m 8 = tornS t s m := by
  unfold mixW; rw [List.drop_of_length_le (by omega), List.append_nil, List.take_of_length_le (by rw [tornS_len]; omega)]
set_option maxRecDepth 100000 in
theorem and_one (a : Fin 256) : (bits .and .u8 ((a.val : Nat) : Int) 1 == 1) = decide (a.val % 2 = 1) := by
  revert a; decide
set_option maxRecDepth 100000 in
theorem bit_and (x : B8) (n : Nat) : (bits .and .u8 ((x.toNat : Int) / 2 ^ n) 1 == 1) = x.getLsbD n := by
  have e : ((x.toNat : Int) / 2 ^ n) = ((x.toNat / 2 ^ n : Nat) : Int) := by push_cast; rfl
  have hl : x.toNat / 2 ^ n < 256 := Nat.lt_of_le_of_lt (Nat.div_le_self _ _) x.isLt
  rw [e, BitVec.getLsbD, Nat.testBit_eq_decide_div_mod_eq]
  exact and_one ⟨_, hl⟩
set_option maxRecDepth 100000 in
theorem slice_word (b o k : Nat) (hk : k < 8) (w : World) : (Instr.sliceAt 92 (.pointer (some ⟨b, o, none⟩)) (some (.int .i64 ((k : Int) * 8))) (some (.int .i64 (((k : Int) + 1) * 8))) none).run Tryd.prog w = .ok (.slice (some ⟨b, o + 8 * k, none⟩) 8 (64 - 8 * k)) w := by
  have hj : k = 0 ∨ k = 1 ∨ k = 2 ∨ k = 3 ∨ k = 4 ∨ k = 5 ∨ k = 6 ∨ k = 7 := by omega
  rcases hj with rfl | rfl | rfl | rfl | rfl | rfl | rfl | rfl <;> rfl
set_option maxHeartbeats 1000000 in
set_option maxRecDepth 100000 in
theorem landOn_any (b : Nat) (ty : TypeId) (P R : List Value) (t s : Sec) (m : B8) (C : Array Value) (w : World) (hC : C = (s.map bv).toArray) (hs : s.length = 64) (ht : t.length = 64)
    (h : w.heap[b]? = some (.cells (P ++ (t.map bv ++ R)).toArray ty (0, 0))) :
    Calls Tryd.prog 67 #[.agg C, .pointer (some ⟨b, P.length, none⟩), .int .u8 (m.toNat : Int)] w fun r w' => (∃ v, r = .returned v) ∧ w'.heap[b]? = some (.cells (P ++ ((tornS t s m).map bv ++ R)).toArray ty (0, 0)) ∧ Turn (fun i => i = b) w w' := by
  have HH := Lib.hid h
  have HC := Lib.hid hC
  have hsz : C.size = 64 := by rw [hC]; simp [hs]
  have hcl : ∀ (i : Nat) (x : Value), C[i]? = some x → x.oneCell' = true := by
    intro i x hx
    rw [hC] at hx
    simp only [List.getElem?_toArray] at hx
    exact bv_one s _ (List.mem_of_getElem? hx)
  have hlt := lt_of_block h
  have HS := Lib.hid hs
  have HT := Lib.hid ht
  clear h hC hs ht
  go_enter Tryd.func67, Tryd.ntmps67
  go_wp2
  have hh1 : (w.alloc (.cells C 92)).heap[w.heap.size]? = some (.cells C 92 (0, 0)) := heap_alloc_new w _
  have hh2 : (w.alloc (.cells C 92)).heap[b]? = some (.cells (P ++ (t.map bv ++ R)).toArray ty (0, 0)) := ((Turn.refl (fun _ => False) w).alloc _).heap HH.out (fun h => h)
  have ht1 : Turn (fun i => i = b) w (w.alloc (.cells C 92)) := (Turn.refl _ w).alloc _
  have H1 := Lib.hid hh1
  have H2 := Lib.hid hh2
  have H3 := Lib.hid ht1
  clear hh1 hh2 ht1 HH
  generalize w.alloc (.cells C 92) = w1 at *
  generalize hB0 : w.heap.size = B0 at *
  have HB0 := Lib.hid hB0
  clear hB0
  go_loopw [9] (fun i wr => ∃ k : Nat, k ≤ 8 ∧ i = .int .i64 k ∧ wr.heap[b]? = some (.cells (P ++ ((mixW t s m k).map bv ++ R)).toArray ty (0, 0)) ∧ wr.heap[B0]? = some (.cells C 92 (0, 0)) ∧ Turn (fun i => i = b) w wr) (fun i _ => 8 - (intOf i).toNat)
  case atStart => exact ⟨0, by omega, rfl, by rw [mixW_zero]; exact H2.out, H1.out, H3.out⟩
  case round =>
    obtain ⟨k, hk, rfl, hb, hB, htn⟩ := hrel
    have G1 := Lib.hid hb
    have G2 := Lib.hid hB
    have G3 := Lib.hid htn
    clear hb hB htn
    by_cases hlt8 : k < 8
    · cases hm : m.getLsbD k with
      | false =>
        have hbit := (bit_and m k).trans hm
        have HM := Lib.hid hm
        clear hm
        go_wp2
        refine ⟨⟨k + 1, by omega, by go_num, by rw [mixW_no t s m k HT.out hlt8 HM.out]; exact G1.out, G2.out, G3.out⟩, ?_⟩
        simp [intOf]; omega
      | true =>
        have hbit := (bit_and m k).trans hm
        have HM := Lib.hid hm
        clear hm
        go_upto_region 6 with fail
        have hs1 := slice_word b P.length k hlt8
        have hs2 := slice_word B0 0 k hlt8
        rw [Nat.zero_add] at hs2
        refine wp_region_still_tail 8 (by kernel_rfl) (by kernel_rfl) ?_
        simp only [List.take_succ_cons, List.take_zero, List.drop_succ_cons, List.drop_zero]
        change wpStill _ _ wr.drew (fun a' => wpList _ _ _ _ a' wr.drew) _ _
        repeat still_step
        refine wpStill_nil ?_
        have hm := mixW_len t s m k HT.out (by omega)
        obtain ⟨X, hX⟩ : ∃ X, X = ((s.drop (8 * k)).take 8).map bv := ⟨_, rfl⟩
        obtain ⟨Y, hY⟩ : ∃ Y, Y = P ++ ((mixW t s m k).map bv ++ R) := ⟨_, rfl⟩
        have hl8 : X.length = 8 := by rw [hX, List.length_map, List.length_take, List.length_drop, HS.out]; omega
        have hYl : P.length + 8 * k + 8 ≤ Y.length := by rw [hY]; simp [hm]; omega
        have hsrc : ∀ (j : Nat) (u : Value), X[j]? = some u → wr.drew.cell? ((⟨B0, 8 * k, none⟩ : Addr).add j) = some u := by
          intro j u hu
          have e : (⟨B0, 8 * k, none⟩ : Addr).add j = ⟨B0, 8 * k + j, none⟩ := by unfold Addr.add; split <;> simp_all
          rw [e]
          change wr.cell? _ = _
          rw [cell_of_row wr B0 _ _ _ _ G2.out, HC.out, List.getElem?_toArray]
          rw [hX] at hu
          simp only [List.getElem?_map, List.getElem?_take, List.getElem?_drop] at hu ⊢
          split at hu
          · exact hu
          · cases hu
        have hnew : Y.take (P.length + 8 * k) ++ (X ++ Y.drop (P.length + 8 * k + X.length)) = P ++ ((mixW t s m (k + 1)).map bv ++ R) := by
          have e1 : Y.take (P.length + 8 * k) = P ++ ((mixW t s m k).take (8 * k)).map bv := by
            rw [hY, List.take_append, List.take_of_length_le (by omega), Nat.add_sub_cancel_left, List.take_append_of_le_length (by rw [List.length_map]; omega), List.map_take]
          have e2 : Y.drop (P.length + 8 * k + X.length) = ((mixW t s m k).drop (8 * k + 8)).map bv ++ R := by
            rw [hY, hl8, Nat.add_assoc, List.drop_append, List.drop_of_length_le (by omega), Nat.add_sub_cancel_left, List.drop_append_of_le_length (by rw [List.length_map]; omega), List.map_drop, List.nil_append]
          rw [e1, e2, hX, mixW_yes t s m k HT.out HS.out hlt8 HM.out]
          simp only [List.map_append, List.append_assoc]
        have hone : ∀ u ∈ X, u.oneCell' = true := by rw [hX]; exact bv_one _
        have hg1 : wr.heap[b]? = some (.cells Y.toArray ty (0, 0)) := by rw [hY]; exact G1.out
        have HX := Lib.hid hnew
        have HL := Lib.hid hl8
        have HR := Lib.hid hsrc
        have HYl := Lib.hid hYl
        have H1' := Lib.hid hone
        have G1' := Lib.hid hg1
        clear hnew hl8 hsrc hm hX hY hYl hone hg1
        go_wp2_with (refine wpList_copy_own rfl _ _ _ _ rfl 5 Tryd.underlying36 (by kernel_rfl) b (P.length + 8 * k) 8 _ ⟨B0, 8 * k, none⟩ 8 _ rfl rfl Y.toArray _ G1'.out X ?e1 HR.out ?e2 H1'.out ?_)
        case e1 => rw [HL.out]; rfl
        case e2 => rw [HL.out, List.size_toArray]; exact HYl.out
        have HX' := HX.out
        rw [HX']
        refine ⟨⟨k + 1, by omega, by go_num, setRow_heap _ _ _ _ _ _ G1'.out, ?_, ?_⟩, ?_⟩
        · exact (setRow_other _ _ _ _ (by have := hlt; omega)).trans G2.out
        · exact (G3.out.drew).setRow b _ (fun _ => rfl)
        · simp [intOf]; omega
    · obtain rfl : k = 8 := by omega
      go_wp2
      go_end0
      exact ⟨⟨_, rfl⟩, by rw [← mixW_all t s m HT.out]; exact G1.out, G3.out⟩
end
section
set_option linter.unusedVariables false
set_option linter.unusedSimpArgs false
open Go.RowKit
/-- A load of a sector, of a write, behind a name that the walk does not open. -/
def secLoad (v : Value) : Sem Value := Instr.loadAt 92 v
def wrLoad (v : Value) : Sem Value := Instr.loadAt 94 v
set_option maxRecDepth 100000 in
theorem loadAt_sec (v : Value) : Instr.loadAt 92 v = secLoad v := rfl
set_option maxRecDepth 100000 in
theorem loadAt_wr (v : Value) : Instr.loadAt 94 v = wrLoad v := rfl
set_option maxRecDepth 100000 in
theorem run_secLoad (w : World) (b o : Nat) : (secLoad (.pointer (some ⟨b, o, none⟩))).run Tryd.prog w = (match rowOf w b o 64 with | some C => .ok (.agg C) w | none => loadRest Tryd.prog 92 b o w) := by
  unfold secLoad
  cases h : rowOf w b o 64 with
  | none => rfl
  | some C =>
    obtain ⟨hs, hr⟩ := rowOf_some h
    have := run_loadAt_mid w b o 92 C.toList _ hr Tryd.underlying92 rfl (by rw [Array.length_toList, hs]; kernel_rfl)
    simpa using this
set_option maxRecDepth 100000 in
theorem run_wrLoad (w : World) (b o : Nat) : (wrLoad (.pointer (some ⟨b, o, none⟩))).run Tryd.prog w = (match rowOf w b o 65 with | some C => .ok (.agg C) w | none => loadRest Tryd.prog 94 b o w) := by
  unfold wrLoad
  cases h : rowOf w b o 65 with
  | none => rfl
  | some C =>
    obtain ⟨hs, hr⟩ := rowOf_some h
    have := run_loadAt_mid w b o 94 C.toList _ hr Tryd.underlying94 rfl (by rw [Array.length_toList, hs]; kernel_rfl)
    simpa using this
def ZSec : Array Value := ((zeros 64).map bv).toArray
def ZWr : Array Value := (.int .i64 0 :: (zeros 64).map bv : List Value).toArray
set_option maxRecDepth 100000 in
theorem zero_sec (w : World) : (zeroValue 92).run Tryd.prog w = .ok (.agg ZSec) w := by kernel_rfl
set_option maxRecDepth 100000 in
theorem zero_wr (w : World) : (zeroValue 94).run Tryd.prog w = .ok (.agg ZWr) w := by kernel_rfl
set_option maxRecDepth 100000 in
theorem ZSec_size : ZSec.size = 64 := by simp [ZSec, zeros]
set_option maxRecDepth 100000 in
theorem ZWr_size : ZWr.size = 65 := by simp [ZWr, zeros]
/-- The cells of sectors, of what waits. -/
def secsV (L : List Sec) : List Value := L.flatMap fun s => s.map bv
def wtV (x : Nat × Sec) : List Value := .int .i64 (x.1 : Int) :: x.2.map bv
def wtsV (W : List (Nat × Sec)) : List Value := W.flatMap wtV
set_option maxRecDepth 100000 in
theorem secsV_len (L : List Sec) (h : ∀ s ∈ L, s.length = 64) : (secsV L).length = L.length * 64 := by
  induction L with
  | nil => rfl
  | cons s L ih =>
    have h1 := h s (List.mem_cons_self ..)
    have h2 := ih fun x hx => h x (List.mem_cons_of_mem _ hx)
    simp only [secsV, List.flatMap_cons, List.length_append, List.length_map, List.length_cons] at *
    omega
set_option maxRecDepth 100000 in
theorem wtsV_len (W : List (Nat × Sec)) (h : ∀ x ∈ W, x.2.length = 64) : (wtsV W).length = W.length * 65 := by
  induction W with
  | nil => rfl
  | cons s L ih =>
    have h1 := h s (List.mem_cons_self ..)
    have h2 := ih fun x hx => h x (List.mem_cons_of_mem _ hx)
    simp only [wtsV, List.flatMap_cons, List.length_append, wtV, List.length_map, List.length_cons] at *
    omega
set_option maxRecDepth 100000 in
theorem secsV_split (L : List Sec) (k : Nat) (hk : k < L.length) : secsV L = secsV (L.take k) ++ (L[k].map bv ++ secsV (L.drop (k + 1))) := by
  have e : L = L.take k ++ (L[k] :: L.drop (k + 1)) := by rw [← List.drop_eq_getElem_cons hk, List.take_append_drop]
  refine (congrArg secsV e).trans ?_
  simp only [secsV, List.flatMap_append, List.flatMap_cons]
set_option maxRecDepth 100000 in
theorem secsV_set (L : List Sec) (k : Nat) (hk : k < L.length) (s : Sec) : secsV (L.set k s) = secsV (L.take k) ++ (s.map bv ++ secsV (L.drop (k + 1))) := by
  rw [List.set_eq_take_append_cons_drop, if_pos hk]
  simp only [secsV, List.flatMap_append, List.flatMap_cons]
set_option maxRecDepth 100000 in
theorem wtsV_split (W : List (Nat × Sec)) (k : Nat) (hk : k < W.length) : wtsV W = wtsV (W.take k) ++ (wtV W[k] ++ wtsV (W.drop (k + 1))) := by
  have e : W = W.take k ++ (W[k] :: W.drop (k + 1)) := by rw [← List.drop_eq_getElem_cons hk, List.take_append_drop]
  refine (congrArg wtsV e).trans ?_
  simp only [wtsV, List.flatMap_append, List.flatMap_cons]
set_option maxRecDepth 100000 in
/-- A row of one's own: a slice, and its block. -/
theorem own_block {w : World} {base s n : Nat} {e : TypeId} {v : Value} {xs : List Value} (h : w.ownsRow base e s v n xs) : ∃ A c, v = .slice A n c ∧ (0 < n → ∃ g Z, A = some ⟨g, 0, none⟩ ∧ v.ownBlock = some g ∧ w.heap[g]? = some (.cells (xs ++ Z).toArray e (0, 0)) ∧ n ≤ c ∧ c ≤ maxLen ∧ (xs ++ Z).length = c * s) := by
  obtain ⟨h1, h2⟩ := h
  rcases h2 with ⟨rfl, rfl⟩ | ⟨g, cap, cur, rfl, hg, hh, hn, hcap, hsz, ht⟩
  · exact ⟨none, 0, rfl, fun h => absurd h (by omega)⟩
  · refine ⟨_, cap, rfl, fun _ => ⟨g, cur.toList.drop (n * s), rfl, rfl, ?_, hn, hcap, ?_⟩⟩
    · rw [← ht, List.take_append_drop, Array.toArray_toList]; exact hh
    · rw [← ht, List.take_append_drop, Array.length_toList]; exact hsz
set_option maxRecDepth 100000 in
theorem own_back {w : World} {s n c g : Nat} {e : TypeId} {xs Z : List Value} (hl : xs.length = n * s) (hh : w.heap[g]? = some (.cells (xs ++ Z).toArray e (0, 0))) (hn : n ≤ c) (hc : c ≤ maxLen) (hs : (xs ++ Z).length = c * s) : w.ownsRow 0 e s (.slice (some ⟨g, 0, none⟩) n c) n xs :=
  ⟨hl, .inr ⟨g, c, _, rfl, Nat.zero_le _, hh, hn, hc, by simpa using hs, by simp only [List.toList_toArray]; rw [← hl]; exact List.take_left⟩⟩
set_option maxRecDepth 100000 in
/-- A row is stored over a new block. -/
theorem run_store_new (w : World) (C Z : Array Value) (ty : TypeId) (hs : C.size = Z.size) (h1 : C.all (·.oneCell') = true) : (storeCells ⟨w.heap.size, 0, none⟩ C.toList).run Tryd.prog (w.alloc (.cells Z ty)) = .ok () (w.alloc (.cells C ty)) := by
  rw [run_storeCells_at Tryd.prog w.heap.size 0 ty C.toList 0 Z _ (heap_alloc_new w _) (by simp; omega) (by
    intro v hv
    rw [Array.all_eq_true_iff_forall_mem] at h1
    exact h1 v (by simpa using hv))]
  rw [World.setRow_alloc_new]
  congr 3
  apply Array.ext'
  simp only [Nat.zero_add, List.take_zero, List.nil_append]
  rw [List.drop_of_length_le (by simp; omega), List.append_nil]
/-- The landed drum at g, its blocks D. -/
structure LMem (w : World) (g : Nat) (Sv Wv : Value) (d : Dr) (n : Nat) (D : Nat → Prop) : Prop where
  box : ∃ f, LBox w g Sv Wv f d.off ∧ f < 9223372036854775808 ∧ (d.off = false → f = d.fuse)
  ok : d.Ok n
  small : n ≤ 10000
  rowL : w.ownsRow 0 92 64 Sv n (secsV d.L)
  rowW : w.ownsRow 0 94 65 Wv d.W.length (wtsV d.W)
  few : d.W.length ≤ 10000
  neL : Sv.ownBlock ≠ some g
  neW : Wv.ownBlock ≠ some g
  ne : ∀ k, Sv.ownBlock = some k → Wv.ownBlock ≠ some k
  ownG : D g
  ownL : ∀ k, Sv.ownBlock = some k → D k
  ownW : ∀ k, Wv.ownBlock = some k → D k
  lt : ∀ k, D k → k < w.heap.size
set_option maxRecDepth 100000 in
/-- What turns none of its blocks leaves it. -/
theorem LMem.keep {w w' : World} {g n : Nat} {Sv Wv : Value} {d : Dr} {D S : Nat → Prop} (h : LMem w g Sv Wv d n D) (t : Turn S w w') (hS : ∀ k, D k → ¬ S k) : LMem w' g Sv Wv d n D where
  box := by obtain ⟨f, h1, h2⟩ := h.box; exact ⟨f, h1.turn t (hS _ h.ownG), h2⟩
  ok := h.ok
  small := h.small
  rowL := own_turn t h.rowL fun k hk => hS k (h.ownL k hk)
  rowW := own_turn t h.rowW fun k hk => hS k (h.ownW k hk)
  few := h.few
  neL := h.neL
  neW := h.neW
  ne := h.ne
  ownG := h.ownG
  ownL := h.ownL
  ownW := h.ownW
  lt := fun k hk => Nat.lt_of_lt_of_le (h.lt k hk) t.size
attribute [local go_sem ↓] loadAt_sec loadAt_wr
attribute [local go_sem] zero_sec zero_wr ZSec_size ZWr_size run_secLoad run_wrLoad rowOf_drew rowOf_drewN
set_option maxHeartbeats 1000000 in
set_option maxRecDepth 100000 in
theorem land_any (g n : Nat) (Sv Wv : Value) (d : Dr) (D : Nat → Prop) (Am : Option Addr) (cm : Nat) (M : List B8) (w : World) (h : LMem w g Sv Wv d n D) (hM : SlN w D Am (M.map bv)) (hMl : M.length ≤ maxLen) :
    Calls Tryd.prog 46 #[.pointer (some ⟨g, 0, none⟩), .slice Am M.length cm] w fun r w' => (∃ v, r = .returned v) ∧ LMem w' g Sv (.slice none 0 0) (d.land M) n D ∧ Turn D w w' := by
  obtain ⟨f, hbox, hf, hfo⟩ := h.box
  obtain ⟨c0, c1, c2, c3, z0, z1, z2, z3⟩ := hbox.cells
  obtain ⟨AL, cL, eL, kL⟩ := own_block h.rowL
  obtain ⟨AW, cW, eW, kW⟩ := own_block h.rowW
  have HH := Lib.hid h
  have hfew := h.few
  have HB := Lib.hid hbox
  have HM := Lib.hid hM
  rw [eL] at c0
  rw [eW] at c1
  clear h hbox hM
  go_enter Tryd.func46, Tryd.ntmps46
  go_wp2
  go_loopw [12] (fun i wr => ∃ j : Nat, j ≤ d.W.length ∧ i = .int .i64 j ∧ wr.ownsRow 0 92 64 Sv n (secsV (landL d.L (d.W.take j) M)) ∧ Turn (fun k => Sv.ownBlock = some k) w wr) (fun i _ => d.W.length - (intOf i).toNat)
  case atStart => exact ⟨0, Nat.zero_le _, rfl, by rw [List.take_zero]; exact HH.out.rowL, Turn.refl _ _⟩
  case round =>
    obtain ⟨j, hj, rfl, hr, ht⟩ := hrel
    have R1 := Lib.hid hr
    have T1 := Lib.hid ht
    clear hr ht
    by_cases hlt : j < d.W.length
    · obtain ⟨gW, ZW, rfl, eoW, hhW, hnW, hcW, hsW⟩ := kW (by omega)
      have hwl : ∀ x ∈ d.W, x.2.length = 64 := fun x hx => (HH.out.ok.wait x hx).2
      obtain ⟨hat, h64⟩ := HH.out.ok.wait d.W[j] (List.getElem_mem _)
      have hgW : gW ≠ g := fun e => HH.out.neW (by rw [eoW, e])
      have hgS : ¬ Sv.ownBlock = some gW := fun e => HH.out.ne gW e eoW
      have hhW2 := T1.out.heap hhW hgS
      have hrow : rowOf wr gW (j * 65) 65 = some (wtV d.W[j]).toArray := by
        have hlen := wtsV_len d.W hwl
        rw [rowOf_block hhW2 (j * 65) 65 (by rw [List.length_append, hlen]; omega), wtsV_split d.W j hlt, List.append_assoc]
        have h1 : (wtsV (d.W.take j)).length = j * 65 := by rw [wtsV_len _ fun x hx => hwl x (List.mem_of_mem_take hx), List.length_take, Nat.min_eq_left hj]
        have h2 : (wtV d.W[j]).length = 65 := by simp [wtV, h64]
        rw [← h1, List.drop_left, List.append_assoc, ← h2, List.take_left]
      obtain ⟨C, hC⟩ : ∃ C, C = (wtV d.W[j]).toArray := ⟨_, rfl⟩
      rw [← hC] at hrow
      have hCs : C.size = 65 := by rw [hC]; simp [wtV, h64]
      have hC1 : C.all (·.oneCell') = true := by
        rw [hC, Array.all_eq_true_iff_forall_mem]
        intro u hu
        simp only [wtV, List.mem_toArray, List.mem_cons] at hu
        rcases hu with rfl | hu
        · rfl
        · exact bv_one _ _ hu
      have HC := Lib.hid hC
      have HW2 := Lib.hid hhW2
      have hst := run_store_new wr C ZWr 94 (by rw [hCs, ZWr_size]) hC1
      first | (have hst' := run_store_new wr C Tryd.zeroCells94 94 (by rw [hCs]; rfl) hC1) | skip
      obtain ⟨gS, ZS, rfl, eoS, -, -, -, -⟩ := kL (by omega)
      have hnx : gS ≠ g := fun e => HH.out.neL (by rw [eoS, e])
      obtain ⟨w5, hw5⟩ : ∃ w5, w5 = wr.alloc (.cells C 94) := ⟨_, rfl⟩
      have t5 : Turn (fun _ => False) wr w5 := by rw [hw5]; exact (Turn.refl _ wr).alloc _
      have hn5 : w5.heap[wr.heap.size]? = some (.cells (wtV d.W[j]).toArray 94 (0, 0)) := by rw [hw5, ← hC]; exact heap_alloc_new wr _
      have d0 : w5.cell? ⟨g, 0, none⟩ = some (.slice (some ⟨gS, 0, none⟩) n cL) := t5.cell (T1.out.cell c0 HH.out.neL) (fun h => h)
      have r5 : rowOf w5 wr.heap.size 1 64 = some (d.W[j].2.map bv).toArray := by
        rw [rowOf_block hn5 1 64 (by simp [wtV, h64])]
        simp only [wtV, List.drop_succ_cons, List.drop_zero]
        rw [List.take_of_length_le (by simp [h64])]
      have i5 : w5.cell? ⟨wr.heap.size, 0, none⟩ = some (.int .i64 (d.W[j].1 : Int)) := by rw [cell_of_row _ _ _ _ _ _ hn5]; rfl
      have hLl : (landL d.L (d.W.take j) M).length = n := (landL_len _ _ _).trans HH.out.ok.len
      have hLs : ∀ s ∈ landL d.L (d.W.take j) M, s.length = 64 := landL_sec _ _ _ HH.out.ok.sec
      have hland := land_step (L := d.L) (M := M) hlt
      obtain ⟨AL', cL', eL', kL'⟩ := own_block R1.out
      rw [eL] at eL'
      injection eL' with e1 _ e2
      subst e1 e2
      obtain ⟨gS', Z', e1, e2, hS, q1, q2, q3⟩ := kL' (by omega)
      injection e1 with e1
      injection e1 with e1
      subst e1
      have hLO : ∀ mask : B8, Calls Tryd.prog 67 #[.agg (d.W[j].2.map bv).toArray, .pointer (some ⟨gS, d.W[j].1 * 64, none⟩), .int .u8 (mask.toNat : Int)] w5.drew fun r w' => (∃ v, r = .returned v) ∧
          w'.ownsRow 0 92 64 Sv n (secsV ((landL d.L (d.W.take j) M).set d.W[j].1 (tornS ((landL d.L (d.W.take j) M).getD d.W[j].1 []) d.W[j].2 mask))) ∧ Turn (fun k => Sv.ownBlock = some k) w w' := by
        intro mask
        have hk : d.W[j].1 < (landL d.L (d.W.take j) M).length := by rw [hLl]; exact hat
        have hP : (secsV ((landL d.L (d.W.take j) M).take d.W[j].1)).length = d.W[j].1 * 64 := by
          rw [secsV_len _ fun x hx => hLs x (List.mem_of_mem_take hx), List.length_take, Nat.min_eq_left (by omega)]
        have hb : w5.drew.heap[gS]? = some (.cells (secsV ((landL d.L (d.W.take j) M).take d.W[j].1) ++ ((landL d.L (d.W.take j) M)[d.W[j].1].map bv ++ (secsV ((landL d.L (d.W.take j) M).drop (d.W[j].1 + 1)) ++ Z'))).toArray 92 (0, 0)) := by
          have := t5.heap hS (fun h => h)
          rw [secsV_split _ _ hk] at this
          simpa [List.append_assoc, heap_drew] using this
        have hc := landOn_any gS _ _ _ _ d.W[j].2 mask (d.W[j].2.map bv).toArray w5.drew rfl h64 (hLs _ (List.getElem_mem _)) hb
        rw [hP] at hc
        refine hc.mono ?_
        rintro r w' ⟨hr, hh, ht⟩
        refine ⟨hr, ?_, (((T1.out.trans t5 (fun _ _ h => h.elim)).drew).trans ht (fun i _ h => by rw [h]; exact eoS))⟩
        have hget : (landL d.L (d.W.take j) M).getD d.W[j].1 [] = (landL d.L (d.W.take j) M)[d.W[j].1] := by rw [List.getD_eq_getElem?_getD, List.getElem?_eq_getElem hk]; rfl
        rw [hget, eL]
        refine own_back (Z := Z') ?_ ?_ q1 q2 ?_
        · rw [secsV_len _ fun s hs => (List.mem_or_eq_of_mem_set hs).elim (hLs s) (fun e => by rw [e]; exact tornS_len _ _ _), List.length_set, hLl]
        · rw [hh, secsV_set _ _ hk]; simp [List.append_assoc]
        · rw [List.length_append, secsV_len _ fun s hs => (List.mem_or_eq_of_mem_set hs).elim (hLs s) (fun e => by rw [e]; exact tornS_len _ _ _), List.length_set, hLl]
          rw [List.length_append, secsV_len _ hLs, hLl] at q3
          exact q3
      have LO := Lib.hid hLO
      have HLD := Lib.hid hland
      have HLT := Lib.hid hlt
      have MC := Lib.hid (show ∀ (k : Nat) (u : Value), (M.map bv)[k]? = some u → ∃ a, Am = some a ∧ (wr.alloc (.cells C 94)).cell? (a.add k) = some u from fun k u hu => by
        obtain ⟨a, ha, hmn, hmc⟩ := HM.out k u hu
        refine ⟨a, ha, ?_⟩
        rw [← hw5]
        exact t5.cell (T1.out.cell hmc (fun e => hmn (HH.out.ownL _ (by simpa [add_block] using e)))) (fun h => h))
      clear hLO hLl hLs hland hn5 q1 q2 q3 hS R1 T1 hC HC kL kL' kW eoS e2 hgS hnx
      by_cases hm : j < M.length
      · have hmask : M.getD j 255 = M[j] := by rw [List.getD_eq_getElem?_getD, List.getElem?_eq_getElem hm]; rfl
        have HMK := Lib.hid hmask
        clear hmask
        obtain ⟨am, rfl, hmc⟩ := MC.out j _ (bvs_at M j hm)
        rw [bv] at hmc
        go_upto_region 6 with fail
        rw [← hw5]
        clear hw5
        refine wp_region_still_tail 10 (by kernel_rfl) (by kernel_rfl) ?_
        simp only [List.take_succ_cons, List.take_zero, List.drop_succ_cons, List.drop_zero]
        change wpStill _ _ w5.drew (fun a' => wpList _ _ _ _ a' w5.drew) _ _
        repeat still_step
        refine wpStill_nil ?_
        go_wp2_with (go_at_call 67; refine (LO.out M[j]).mono ?_; rintro r w6 ⟨⟨v6, rfl⟩, ho6, ht6⟩; have O6 := Lib.hid ho6; have T6 := Lib.hid ht6; clear ho6 ht6)
        have hlt2 := HLT.out
        refine ⟨⟨j + 1, by omega, by go_num, by rw [HLD.out, HMK.out]; exact O6.out, T6.out⟩, ?_⟩
        simp [intOf]; omega
      · have hmask : M.getD j 255 = 255 := by rw [List.getD_eq_getElem?_getD, List.getElem?_eq_none (by omega)]; rfl
        have HMK := Lib.hid hmask
        clear hmask
        go_upto_region 6 with fail
        rw [← hw5]
        clear hw5
        refine wp_region_still_tail 10 (by kernel_rfl) (by kernel_rfl) ?_
        simp only [List.take_succ_cons, List.take_zero, List.drop_succ_cons, List.drop_zero]
        change wpStill _ _ w5.drew (fun a' => wpList _ _ _ _ a' w5.drew) _ _
        repeat still_step
        refine wpStill_nil ?_
        go_wp2_with (go_at_call 67; refine (LO.out 255).mono ?_; rintro r w6 ⟨⟨v6, rfl⟩, ho6, ht6⟩; have O6 := Lib.hid ho6; have T6 := Lib.hid ht6; clear ho6 ht6)
        have hlt2 := HLT.out
        refine ⟨⟨j + 1, by omega, by go_num, by rw [HLD.out, HMK.out]; exact O6.out, T6.out⟩, ?_⟩
        simp [intOf]; omega
    · obtain rfl : j = d.W.length := by omega
      have B2 := HB.out.turn T1.out HH.out.neL
      obtain ⟨-, x1, -, -, -, y1, -, -⟩ := B2.cells
      have T0 := T1
      have HB2 := Lib.hid B2
      clear B2
      go_wp2
      go_end0
      rw [List.take_length] at R1
      have t2 : Turn (fun k => k = g) wr (wr.setCell ⟨g, 1, none⟩ (.slice none 0 0)) := (Turn.refl _ wr).setCell _ _ (fun _ => rfl)
      refine ⟨⟨_, rfl⟩, ⟨⟨f, HB2.out.setW _, hf, hfo⟩, HH.out.ok.land M, HH.out.small, own_turn t2 R1.out (fun k hk e => HH.out.neL (by rw [hk, e])), ⟨rfl, .inl ⟨rfl, rfl⟩⟩, by simp [Dr.land], HH.out.neL, (fun e => by cases e), (fun k _ e => by cases e), HH.out.ownG, HH.out.ownL, (fun k e => by cases e), fun k hk => Nat.lt_of_lt_of_le (HH.out.lt k hk) (Nat.le_trans T1.out.size t2.size)⟩, ?_⟩
      exact (T1.out.mono (fun i _ h => HH.out.ownL i h)).trans t2 (fun i _ h => by rw [h]; exact HH.out.ownG)
end
section
set_option linter.unusedVariables false
open Go.RowKit
section
variable {w w' : World} {g n : Nat} {Sv Wv : Value} {d d' : Dr} {D : Nat → Prop}
set_option maxRecDepth 100000 in
/-- Its box is laid anew, its rows are the same. -/
theorem LMem.rebox {f : Nat} (h : LMem w g Sv Wv d n D) (hb : LBox w' g Sv Wv f d'.off) (hf : f < 9223372036854775808) (hfo : d'.off = false → f = d'.fuse) (hL : d'.L = d.L) (hW : d'.W = d.W) (t : Turn (fun i => i = g) w w') : LMem w' g Sv Wv d' n D where
  box := ⟨f, hb, hf, hfo⟩
  ok := ⟨by rw [hL]; exact h.ok.len, by rw [hL]; exact h.ok.sec, by rw [hW]; exact h.ok.wait⟩
  small := h.small
  rowL := by rw [hL]; exact own_turn t h.rowL fun k hk e => h.neL (by rw [hk, e])
  rowW := by rw [hW]; exact own_turn t h.rowW fun k hk e => h.neW (by rw [hk, e])
  few := by rw [hW]; exact h.few
  neL := h.neL
  neW := h.neW
  ne := h.ne
  ownG := h.ownG
  ownL := h.ownL
  ownW := h.ownW
  lt := fun k hk => Nat.lt_of_lt_of_le (h.lt k hk) t.size
end
set_option maxRecDepth 100000 in
theorem lon_any (g n : Nat) (Sv Wv : Value) (d : Dr) (D : Nat → Prop) (w : World) (h : LMem w g Sv Wv d n D) :
    Calls Tryd.prog 29 #[.pointer (some ⟨g, 0, none⟩)] w fun r w' => r = .returned (.bool (!d.off)) ∧ w' = w := by
  obtain ⟨f, hb, -, -⟩ := h.box
  exact on_any g f Sv Wv d.off w hb
set_option maxRecDepth 100000 in
theorem llen_any (g n : Nat) (Sv Wv : Value) (d : Dr) (D : Nat → Prop) (w : World) (h : LMem w g Sv Wv d n D) :
    Calls Tryd.prog 31 #[.pointer (some ⟨g, 0, none⟩)] w fun r w' => r = .returned (.int .i64 (n : Int)) ∧ w' = w := by
  obtain ⟨f, hb, -, -⟩ := h.box
  obtain ⟨A, c, e, -⟩ := own_block h.rowL
  rw [e] at hb
  exact len_any g f n c A Wv d.off w hb
set_option maxRecDepth 100000 in
theorem lreach_any (g n : Nat) (Sv Wv : Value) (d : Dr) (D : Nat → Prop) (a : Int) (w : World) (h : LMem w g Sv Wv d n D) :
    Calls Tryd.prog 50 #[.pointer (some ⟨g, 0, none⟩), .int .i64 a] w fun r w' => r = .returned (.int .i64 (d.readE a : Int)) ∧ w' = w := by
  obtain ⟨f, hb, -, -⟩ := h.box
  obtain ⟨A, c, e, -⟩ := own_block h.rowL
  rw [e] at hb
  have := reach_any g f n c A Wv d.off a w hb
  unfold Dr.readE
  rw [h.ok.len]
  exact this
set_option maxRecDepth 100000 in
theorem lburns_any (g n : Nat) (Sv Wv : Value) (d : Dr) (D : Nat → Prop) (w : World) (h : LMem w g Sv Wv d n D) (ho : d.off = false) :
    Calls Tryd.prog 51 #[.pointer (some ⟨g, 0, none⟩)] w fun r w' => r = .returned (.bool (d.fuse == 1)) ∧ LMem w' g Sv Wv d.burn n D ∧ Turn (fun i => i = g) w w' := by
  obtain ⟨f, hb, hf, hfo⟩ := h.box
  obtain rfl := hfo ho
  rw [ho] at hb
  refine (burns_any g _ Sv Wv w hb hf).mono ?_
  rintro r w' ⟨hr, hb', ht⟩
  exact ⟨hr, h.rebox (d' := d.burn) (by simpa [Dr.burn, ho] using hb') (f := d.fuse - 1) (by omega) (fun _ => rfl) rfl rfl ht, ht⟩
set_option maxRecDepth 100000 in
theorem lfuse_any (g n : Nat) (Sv Wv : Value) (d : Dr) (D : Nat → Prop) (a : Int) (ha : a < 9223372036854775808) (w : World) (h : LMem w g Sv Wv d n D) :
    Calls Tryd.prog 20 #[.pointer (some ⟨g, 0, none⟩), .int .i64 a] w fun r w' => (∃ v, r = .returned v) ∧ LMem w' g Sv Wv (d.lay a) n D ∧ Turn D w w' := by
  obtain ⟨f, hb, hf, hfo⟩ := h.box
  refine (fuse_any g f Sv Wv d.off a w hb).mono ?_
  rintro r w' ⟨hr, hb', ht⟩
  refine ⟨hr, h.rebox (d' := d.lay a) hb' ?_ ?_ rfl rfl ht, ht.mono fun i _ e => by rw [e]; exact h.ownG⟩
  · split <;> omega
  · intro e
    have e : d.off = false := e
    rw [if_neg (by rw [e]; simp)]; rfl
set_option maxRecDepth 100000 in
theorem lstart_any (g n : Nat) (Sv Wv : Value) (d : Dr) (D : Nat → Prop) (Am : Option Addr) (cm : Nat) (M : List B8) (w : World) (h : LMem w g Sv Wv d n D) (hM : SlN w D Am (M.map bv)) (hMl : M.length ≤ maxLen) :
    Calls Tryd.prog 22 #[.pointer (some ⟨g, 0, none⟩), .slice Am M.length cm] w fun r w' => (∃ v, r = .returned v) ∧ LMem w' g Sv (.slice none 0 0) (d.start M) n D ∧ Turn D w w' := by
  have HL := Lib.hid (land_any g n Sv Wv d D Am cm M w h hM hMl)
  clear h hM hMl
  go_enter Tryd.func22, Tryd.ntmps22
  go_wp2_with (go_at_call 46; refine HL.out.mono ?_; rintro r w1 ⟨⟨v, rfl⟩, h1, t1⟩; have H1 := Lib.hid h1; have T1 := Lib.hid t1; obtain ⟨f, hb, -, -⟩ := h1.box; obtain ⟨x0, x1, x2, x3, y0, y1, y2, y3⟩ := hb.cells; have HB := Lib.hid hb; clear h1 t1 hb)
  go_end0
  have t2 : Turn (fun i => i = g) w1 ((w1.setCell ⟨g, 2, none⟩ (.int .i64 0)).setCell ⟨g, 3, none⟩ (.bool true)) := ((Turn.refl (fun i => i = g) w1).setCell ⟨g, 2, none⟩ _ (fun _ => rfl)).setCell ⟨g, 3, none⟩ _ (fun _ => rfl)
  exact ⟨⟨_, rfl⟩, H1.out.rebox (d' := d.start M) (f := 0) ((HB.out.setF 0).setO false) (by omega) (fun _ => rfl) rfl rfl t2, T1.out.trans t2 (fun i _ e => by rw [e]; exact H1.out.ownG)⟩
set_option maxRecDepth 100000 in
theorem lsync_any (g n : Nat) (Sv Wv : Value) (d : Dr) (D : Nat → Prop) (w : World) (h : LMem w g Sv Wv d n D) :
    Calls Tryd.prog 59 #[.pointer (some ⟨g, 0, none⟩)] w fun r w' => r = .returned (.int .i64 (d.syncE : Int)) ∧ (∃ Wv', LMem w' g Sv Wv' d.sync n D) ∧ Turn D w w' := by
  have HO := Lib.hid (lon_any g n Sv Wv d D w h)
  have HH := Lib.hid h
  by_cases ho : d.off = true
  · have e1 : d.syncE = 21 := by unfold Dr.syncE; rw [if_pos ho]
    have e2 : d.sync = d := by unfold Dr.sync; rw [if_pos ho]
    rw [e1, e2]
    rw [ho] at HO
    clear h e1 e2
    go_enter Tryd.func59, Tryd.ntmps59
    go_wp2_with (go_at_call 29; refine HO.out.mono ?_; rintro r w1 ⟨rfl, rfl⟩)
    go_ret
    exact ⟨rfl, ⟨_, HH.out⟩, Turn.refl _ _⟩
  have ho' : d.off = false := by simpa using ho
  have HB := Lib.hid (lburns_any g n Sv Wv d D w h ho')
  rw [ho'] at HO
  by_cases hf : d.fuse = 1
  · have e1 : d.syncE = 20 := by unfold Dr.syncE; rw [if_neg ho, if_pos hf]
    have e2 : d.sync = d.burn := by unfold Dr.sync; rw [if_neg ho, if_pos hf]
    rw [e1, e2]
    have hq : (d.fuse == 1) = true := by rw [hf]; rfl
    clear h e1 e2
    go_enter Tryd.func59, Tryd.ntmps59
    go_wp2_with (first | (go_at_call 29; refine HO.out.mono ?_; rintro r w1 ⟨rfl, rfl⟩) | (go_at_call 51; refine HB.out.mono ?_; rintro r w2 ⟨rfl, h2, t2⟩; have H2 := Lib.hid h2; have T2 := Lib.hid t2; clear h2 t2))
    go_ret
    exact ⟨rfl, ⟨_, H2.out⟩, T2.out.mono fun i _ e => by rw [e]; exact HH.out.ownG⟩
  · have e1 : d.syncE = 0 := by unfold Dr.syncE; rw [if_neg ho, if_neg hf]
    have e2 : d.sync = d.burn.land [] := by unfold Dr.sync; rw [if_neg ho, if_neg hf]
    rw [e1, e2]
    have hq : (d.fuse == 1) = false := by simpa using hf
    clear h e1 e2
    go_enter Tryd.func59, Tryd.ntmps59
    go_wp2_with (first | (go_at_call 29; refine HO.out.mono ?_; rintro r w1 ⟨rfl, rfl⟩) | (go_at_call 51; refine HB.out.mono ?_; rintro r w2 ⟨rfl, h2, t2⟩; have H2 := Lib.hid h2; have T2 := Lib.hid t2; have HL := Lib.hid (land_any g n Sv Wv d.burn D none 0 [] w2 h2 (fun j u hu => by simp at hu) (by unfold maxLen; simp)); clear h2 t2) | (go_at_call 46; refine HL.out.mono ?_; rintro r w3 ⟨⟨v, rfl⟩, h3, t3⟩; have H3 := Lib.hid h3; have T3 := Lib.hid t3; clear h3 t3))
    go_ret
    exact ⟨rfl, ⟨_, H3.out⟩, (T2.out.mono (S := D) fun i _ e => by rw [e]; exact HH.out.ownG).trans T3.out fun _ _ h => h⟩
end
section
set_option linter.unusedVariables false
open Go.RowKit
/-- The cells of one more that waits. -/
def WR (B : Nat) (a : Int) (bb : Sec) (news : List Value) (w : World) : Prop := ∃ X, news = [.int .i64 a, X] ∧ Copy B bb X w
end
section
set_option linter.unusedVariables false
open Go.RowKit
set_option maxRecDepth 100000 in
theorem info_sl : (Tryd.prog.info? 36).map (fun i => (i.zero, i.size, i.bytes)) = some (some (.slice none 0 0), 1, 24) := by kernel_rfl
/-- The blocks made since w. -/
def Since (w w' : World) : Nat → Prop := fun k => w.heap.size ≤ k ∧ k < w'.heap.size
end
end Go.Proofs.YtajdcekkmikbcaaDoor
