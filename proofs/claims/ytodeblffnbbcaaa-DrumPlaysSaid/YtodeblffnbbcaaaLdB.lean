/- The landed drum: landOn. -/
import Derived.Test.YtodeblffnbbcaaaLdA
import Derived.Laws.CopyOwn
import Derived.IntWalk
import Derived.StillTailTactics
set_option linter.unusedVariables false
namespace Go.Proofs.Ytodeblffnbbcaaa
open Go.RowKit
/-- A sector's words up to k have landed. -/
def mixW (t s : Sec) (m : B8) (k : Nat) : Sec := (tornS t s m).take (8 * k) ++ t.drop (8 * k)
theorem mixW_len (t s : Sec) (m : B8) (k : Nat) (ht : t.length = 64) (hk : k ≤ 8) : (mixW t s m k).length = 64 := by
  simp [mixW, tornS_len, ht]; omega
theorem mixW_at (t s : Sec) (m : B8) (k i : Nat) (hk : k ≤ 8) : (mixW t s m k)[i]? = if i < 8 * k then (tornS t s m)[i]? else t[i]? := by
  unfold mixW
  rw [List.getElem?_append]
  simp only [List.length_take, tornS_len]
  rw [Nat.min_eq_left (by omega)]
  split
  · rw [List.getElem?_take, if_pos (by assumption)]
  · rw [List.getElem?_drop]; congr 1; omega
theorem mixW_no (t s : Sec) (m : B8) (k : Nat) (ht : t.length = 64) (hk : k < 8) (hm : m.getLsbD k = false) : mixW t s m (k + 1) = mixW t s m k := by
  apply List.ext_getElem?
  intro i
  rw [mixW_at _ _ _ _ _ (by omega), mixW_at _ _ _ _ _ (by omega)]
  by_cases h1 : i < 8 * k
  · rw [if_pos (by omega), if_pos h1]
  · by_cases h2 : i < 8 * (k + 1)
    · rw [if_pos h2, if_neg h1, tornS_at _ _ _ _ (by omega), show i / 8 = k by omega, hm]
      simp only [Bool.false_eq_true, if_false]
      rw [List.getD_eq_getElem?_getD, List.getElem?_eq_getElem (by omega)]; rfl
    · rw [if_neg h2, if_neg h1]
theorem mixW_yes (t s : Sec) (m : B8) (k : Nat) (ht : t.length = 64) (hs : s.length = 64) (hk : k < 8) (hm : m.getLsbD k = true) :
    mixW t s m (k + 1) = (mixW t s m k).take (8 * k) ++ ((s.drop (8 * k)).take 8 ++ (mixW t s m k).drop (8 * k + 8)) := by
  apply List.ext_getElem?
  intro i
  have hl := mixW_len t s m k ht (by omega)
  rw [mixW_at _ _ _ _ _ (by omega), List.getElem?_append, List.length_take, hl, Nat.min_eq_left (by omega)]
  by_cases h1 : i < 8 * k
  · rw [if_pos (by omega), if_pos h1, List.getElem?_take, if_pos h1, mixW_at _ _ _ _ _ (by omega), if_pos h1]
  · rw [if_neg h1, List.getElem?_append, List.length_take, List.length_drop, hs, Nat.min_eq_left (by omega)]
    by_cases h2 : i < 8 * (k + 1)
    · rw [if_pos h2, if_pos (by omega), tornS_at _ _ _ _ (by omega), show i / 8 = k by omega, hm, if_pos rfl, List.getElem?_take, if_pos (by omega), List.getElem?_drop, show 8 * k + (i - 8 * k) = i by omega]
      rw [List.getD_eq_getElem?_getD, List.getElem?_eq_getElem (by omega)]; rfl
    · rw [if_neg h2, if_neg (by omega), List.getElem?_drop, mixW_at _ _ _ _ _ (by omega), if_neg (by omega)]
      congr 1; omega
theorem mixW_zero (t s : Sec) (m : B8) : mixW t s m 0 = t := by simp [mixW]
theorem mixW_all (t s : Sec) (m : B8) (ht : t.length = 64) : mixW t s m 8 = tornS t s m := by
  unfold mixW; rw [List.drop_of_length_le (by omega), List.append_nil, List.take_of_length_le (by rw [tornS_len]; omega)]
set_option maxRecDepth 100000 in
theorem and_one (a : Fin 256) : (bits .and .u8 ((a.val : Nat) : Int) 1 == 1) = decide (a.val % 2 = 1) := by
  revert a; decide
theorem bit_and (x : B8) (n : Nat) : (bits .and .u8 ((x.toNat : Int) / 2 ^ n) 1 == 1) = x.getLsbD n := by
  have e : ((x.toNat : Int) / 2 ^ n) = ((x.toNat / 2 ^ n : Nat) : Int) := by push_cast; rfl
  have hl : x.toNat / 2 ^ n < 256 := Nat.lt_of_le_of_lt (Nat.div_le_self _ _) x.isLt
  rw [e, BitVec.getLsbD, Nat.testBit_eq_decide_div_mod_eq]
  exact and_one ⟨_, hl⟩
theorem word_idx (k : Nat) (hk : k < 8) : IntKind.i64.wrap ((k : Int) * 8) = (k : Int) * 8 ∧ IntKind.i64.wrap (((k : Int) + 1) * 8) = ((k : Int) + 1) * 8 := ⟨IntWalk.i64_in _ (by omega), IntWalk.i64_in _ (by omega)⟩
theorem slice_word (b o k : Nat) (hk : k < 8) (w : World) : (Instr.sliceAt 60 (.pointer (some ⟨b, o, none⟩)) (some (.int .i64 ((k : Int) * 8))) (some (.int .i64 (((k : Int) + 1) * 8))) none).run Try.prog w = .ok (.slice (some ⟨b, o + 8 * k, none⟩) 8 (64 - 8 * k)) w := by
  have hj : k = 0 ∨ k = 1 ∨ k = 2 ∨ k = 3 ∨ k = 4 ∨ k = 5 ∨ k = 6 ∨ k = 7 := by omega
  rcases hj with rfl | rfl | rfl | rfl | rfl | rfl | rfl | rfl <;> rfl
set_option maxHeartbeats 1000000 in
set_option maxRecDepth 100000 in
theorem landOn_any (b : Nat) (ty : TypeId) (P R : List Value) (t s : Sec) (m : B8) (C : Array Value) (w : World) (hC : C = (s.map bv).toArray) (hs : s.length = 64) (ht : t.length = 64)
    (h : w.heap[b]? = some (.cells (P ++ (t.map bv ++ R)).toArray ty (0, 0))) :
    Calls Try.prog 30 #[.agg C, .pointer (some ⟨b, P.length, none⟩), .int .u8 (m.toNat : Int)] w fun r w' => (∃ v, r = .returned v) ∧ w'.heap[b]? = some (.cells (P ++ ((tornS t s m).map bv ++ R)).toArray ty (0, 0)) ∧ Turn (fun i => i = b) w w' := by
  have HH := Lib.hid h
  have HC := Lib.hid hC
  have hsz : C.size = 64 := by rw [hC]; simp [hs]
  have hcl : ∀ (i : Nat) (x : Value), C[i]? = some x → x.oneCell' = true := by
    intro i x hx
    rw [hC] at hx
    simp only [List.getElem?_toArray] at hx
    exact bv_one s _ (List.mem_of_getElem? hx)
  have hlt := lt_of_block h
  have HS := Lib.hid hs
  have HT := Lib.hid ht
  clear h hC hs ht
  go_enter Try.func30, Try.ntmps30
  go_wp2
  have hh1 : (w.alloc (.cells C 60)).heap[w.heap.size]? = some (.cells C 60 (0, 0)) := heap_alloc_new w _
  have hh2 : (w.alloc (.cells C 60)).heap[b]? = some (.cells (P ++ (t.map bv ++ R)).toArray ty (0, 0)) := ((Turn.refl (fun _ => False) w).alloc _).heap HH.out (fun h => h)
  have ht1 : Turn (fun i => i = b) w (w.alloc (.cells C 60)) := (Turn.refl _ w).alloc _
  have H1 := Lib.hid hh1
  have H2 := Lib.hid hh2
  have H3 := Lib.hid ht1
  clear hh1 hh2 ht1 HH
  generalize w.alloc (.cells C 60) = w1 at *
  generalize hB0 : w.heap.size = B0 at *
  have HB0 := Lib.hid hB0
  clear hB0
  go_loopw [9] (fun i wr => ∃ k : Nat, k ≤ 8 ∧ i = .int .i64 k ∧ wr.heap[b]? = some (.cells (P ++ ((mixW t s m k).map bv ++ R)).toArray ty (0, 0)) ∧ wr.heap[B0]? = some (.cells C 60 (0, 0)) ∧ Turn (fun i => i = b) w wr) (fun i _ => 8 - (intOf i).toNat)
  case atStart => exact ⟨0, by omega, rfl, by rw [mixW_zero]; exact H2.out, H1.out, H3.out⟩
  case round =>
    obtain ⟨k, hk, rfl, hb, hB, htn⟩ := hrel
    have G1 := Lib.hid hb
    have G2 := Lib.hid hB
    have G3 := Lib.hid htn
    clear hb hB htn
    by_cases hlt8 : k < 8
    · cases hm : m.getLsbD k with
      | false =>
        have hbit := (bit_and m k).trans hm
        have HM := Lib.hid hm
        clear hm
        go_wp2
        refine ⟨⟨k + 1, by omega, by go_num, by rw [mixW_no t s m k HT.out hlt8 HM.out]; exact G1.out, G2.out, G3.out⟩, ?_⟩
        simp [intOf]; omega
      | true =>
        have hbit := (bit_and m k).trans hm
        have HM := Lib.hid hm
        clear hm
        go_upto_region 6 with fail
        have hs1 := slice_word b P.length k hlt8
        have hs2 := slice_word B0 0 k hlt8
        rw [Nat.zero_add] at hs2
        refine wp_region_still_tail 8 (by kernel_rfl) (by kernel_rfl) ?_
        simp only [List.take_succ_cons, List.take_zero, List.drop_succ_cons, List.drop_zero]
        change wpStill _ _ wr.drew (fun a' => wpList _ _ _ _ a' wr.drew) _ _
        repeat still_step
        refine wpStill_nil ?_
        have hm := mixW_len t s m k HT.out (by omega)
        obtain ⟨X, hX⟩ : ∃ X, X = ((s.drop (8 * k)).take 8).map bv := ⟨_, rfl⟩
        obtain ⟨Y, hY⟩ : ∃ Y, Y = P ++ ((mixW t s m k).map bv ++ R) := ⟨_, rfl⟩
        have hl8 : X.length = 8 := by rw [hX, List.length_map, List.length_take, List.length_drop, HS.out]; omega
        have hYl : P.length + 8 * k + 8 ≤ Y.length := by rw [hY]; simp [hm]; omega
        have hsrc : ∀ (j : Nat) (u : Value), X[j]? = some u → wr.drew.cell? ((⟨B0, 8 * k, none⟩ : Addr).add j) = some u := by
          intro j u hu
          have e : (⟨B0, 8 * k, none⟩ : Addr).add j = ⟨B0, 8 * k + j, none⟩ := by unfold Addr.add; split <;> simp_all
          rw [e]
          change wr.cell? _ = _
          rw [cell_of_row wr B0 _ _ _ _ G2.out, HC.out, List.getElem?_toArray]
          rw [hX] at hu
          simp only [List.getElem?_map, List.getElem?_take, List.getElem?_drop] at hu ⊢
          split at hu
          · exact hu
          · cases hu
        have hnew : Y.take (P.length + 8 * k) ++ (X ++ Y.drop (P.length + 8 * k + X.length)) = P ++ ((mixW t s m (k + 1)).map bv ++ R) := by
          have e1 : Y.take (P.length + 8 * k) = P ++ ((mixW t s m k).take (8 * k)).map bv := by
            rw [hY, List.take_append, List.take_of_length_le (by omega), Nat.add_sub_cancel_left, List.take_append_of_le_length (by rw [List.length_map]; omega), List.map_take]
          have e2 : Y.drop (P.length + 8 * k + X.length) = ((mixW t s m k).drop (8 * k + 8)).map bv ++ R := by
            rw [hY, hl8, Nat.add_assoc, List.drop_append, List.drop_of_length_le (by omega), Nat.add_sub_cancel_left, List.drop_append_of_le_length (by rw [List.length_map]; omega), List.map_drop, List.nil_append]
          rw [e1, e2, hX, mixW_yes t s m k HT.out HS.out hlt8 HM.out]
          simp only [List.map_append, List.append_assoc]
        have hone : ∀ u ∈ X, u.oneCell' = true := by rw [hX]; exact bv_one _
        have hg1 : wr.heap[b]? = some (.cells Y.toArray ty (0, 0)) := by rw [hY]; exact G1.out
        have HX := Lib.hid hnew
        have HL := Lib.hid hl8
        have HR := Lib.hid hsrc
        have HYl := Lib.hid hYl
        have H1' := Lib.hid hone
        have G1' := Lib.hid hg1
        clear hnew hl8 hsrc hm hX hY hYl hone hg1
        go_wp2_with (refine wpList_copy_own rfl _ _ _ _ rfl 5 Try.underlying28 (by kernel_rfl) b (P.length + 8 * k) 8 _ ⟨B0, 8 * k, none⟩ 8 _ rfl rfl Y.toArray _ G1'.out X ?e1 HR.out ?e2 H1'.out ?_)
        case e1 => rw [HL.out]; rfl
        case e2 => rw [HL.out, List.size_toArray]; exact HYl.out
        have HX' := HX.out
        rw [HX']
        refine ⟨⟨k + 1, by omega, by go_num, setRow_heap _ _ _ _ _ _ G1'.out, ?_, ?_⟩, ?_⟩
        · exact (setRow_other _ _ _ _ (by have := hlt; omega)).trans G2.out
        · exact (G3.out.drew).setRow b _ (fun _ => rfl)
        · simp [intOf]; omega
    · obtain rfl : k = 8 := by omega
      go_wp2
      go_end0
      exact ⟨⟨_, rfl⟩, by rw [← mixW_all t s m HT.out]; exact G1.out, G3.out⟩
end Go.Proofs.Ytodeblffnbbcaaa
