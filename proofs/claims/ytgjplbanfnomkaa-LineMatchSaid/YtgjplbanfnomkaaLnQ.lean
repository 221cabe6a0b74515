/- The landed line: slices.Delete. -/
import Derived.Test.YtgjplbanfnomkaaLnP
set_option linter.unusedVariables false
set_option linter.unusedSimpArgs false
namespace Go.Proofs.Ytgjplbanfnomkaa
open Go.RowKit
set_option maxRecDepth 100000
/-- What Delete of the first k comes to. -/
def DlPost (A : Option Addr) (n cA k : Nat) (cs : List Value) (w : World) (r : Ending) (w' : World) : Prop :=
  r = .returned (.slice A (n - k) cA) ∧ w'.ownsRow 0 36 2 (.slice A (n - k) cA) (n - k) (cs.drop (k * 2)) ∧ Turn (fun q => (Value.slice A n cA).ownBlock = some q) w w'
set_option maxHeartbeats 8000000 in
theorem ldelete_any (A : Option Addr) (n cA k : Nat) (cs : List Value) (w : World) (ho : w.ownsRow 0 36 2 (.slice A n cA) n cs) (h1 : ∀ u ∈ cs, u.oneCell' = true) (hk : k ≤ n) (hm : n ≤ 1000000) :
    Calls Try.prog 44 #[.slice A n cA, .int .i64 0, .int .i64 (k : Int)] w (DlPost A n cA k cs w) := by
  obtain ⟨A', c', e, hc, hcm, hA, hA2⟩ := row_slice ho
  injection e with e1 e2 e3
  subst e1 e3
  unfold maxLen at hcm
  by_cases hk0 : k = 0
  · subst hk0
    have HO := Lib.hid ho
    clear ho h1
    rcases hA2 with rfl | ⟨b, rfl, -, -⟩
    · obtain rfl := hA rfl
      obtain rfl : n = 0 := by omega
      clear hA
      go_enter Try.func44, Try.ntmps44
      go_wp2
      go_ret
      exact ⟨rfl, HO.out, Turn.refl _ _⟩
    · clear hA
      go_enter Try.func44, Try.ntmps44
      go_wp2
      go_ret
      exact ⟨rfl, HO.out, Turn.refl _ _⟩
  · rcases hA2 with rfl | ⟨b, rfl, -, -⟩
    · have := hA rfl; omega
    obtain ⟨i0, hi0, hz0, hz1, hz2⟩ := info_parts it_info
    have hkq : (((0 : Nat) : Int) == (k : Int)) = false := by rw [beq_eq_false_iff_ne]; omega
    have hkq' : ((0 : Int) == (k : Int)) = false := by rw [beq_eq_false_iff_ne]; omega
    obtain ⟨m, hmm⟩ : ∃ m, m = n - k := ⟨_, rfl⟩
    have hmn : m + k = n := by omega
    have HO := Lib.hid ho
    have H1 := Lib.hid h1
    have HMM := Lib.hid hmm
    have hlen : cs.length = n * 2 := ho.1
    clear ho h1 hA
    obtain ⟨z1, z2⟩ := zero_cells (n - m)
    obtain ⟨L, hL⟩ : ∃ L, L = (Builtin.zeroCells (Value.agg #[.int .i64 0, .slice none 0 0]).cells (n - m)).toList := ⟨_, rfl⟩
    rw [← hL] at z1 z2
    -- the two writes, wherever the source begins
    have KEY : ∀ (w9 : World) (o cc : Nat), Turn (fun _ => False) w w9 → (m = 0 ∨ o = k * 2) → ∃ w1, (Builtin.append_ #[27, 27] 27 #[.slice (some ⟨b, 0, none⟩) 0 cA, .slice (some ⟨b, o, none⟩) m cc]).run Try.prog w9 = .ok (.slice (some ⟨b, 0, none⟩) m cA) w1 ∧
        ∃ w2, (Builtin.clear_ #[27] 0 #[.slice (some ⟨b, m * 2, none⟩) (n - m) (cA - m)]).run Try.prog w1 = .ok (.tuple #[]) w2 ∧ w2.ownsRow 0 36 2 (.slice (some ⟨b, 0, none⟩) m cA) m (cs.drop (k * 2)) ∧ Turn (fun q => some b = some q) w w2 := by
      intro w9 o cc t9 hoo
      have ho9 := own_turn2 t9 HO.out (fun _ _ h => h)
      rcases ho9.2 with ⟨e, -⟩ | ⟨g, cap, cur, e, hB, hg, hn, hcc, hs, ht⟩
      · cases e
      injection e with e1 e2 e3
      injection e1 with e1
      injection e1 with e1
      subst e1 e3
      have hnl : (cs.drop (k * 2)).length = m * 2 := by rw [List.length_drop, hlen]; omega
      have hr := run_append_room (P := Try.prog) w9 27 27 36 i0 Try.underlying27 hi0 b 0 cA cur hg ⟨b, o, none⟩ m cc (cs.drop (k * 2)) (by rw [hnl, hz1]) (fun j u hu => by
        have hj := (List.getElem?_eq_some_iff.1 hu).1
        rcases hoo with h0 | h0
        · omega
        · rw [List.getElem?_drop] at hu
          rw [Addr.add_lit, h0]
          exact row_cells ho9 rfl _ _ hu) (fun u hu => H1.out u (List.mem_of_mem_drop hu)) (by omega) (by rw [hnl, hs]; omega)
      rw [hz1] at hr
      simp only [Nat.zero_mul, List.take_zero, List.nil_append, Nat.zero_add] at hr
      have hh := setRow_heap w9 b cur ((cs.drop (k * 2)) ++ cur.toList.drop ((cs.drop (k * 2)).length)).toArray 36 (0, 0) hg
      have hsz : ((cs.drop (k * 2)) ++ cur.toList.drop ((cs.drop (k * 2)).length)).toArray.size = cA * 2 := by
        simp only [List.size_toArray, List.length_append, List.length_drop, Array.length_toList]; omega
      refine ⟨_, hr, _, run_clear_rows (P := Try.prog) _ 27 36 0 (.agg #[.int .i64 0, .slice none 0 0]) Try.underlying27 zero_item b (m * 2) (n - m) (cA - m) (by omega) L hL.symm z2
        (fun j hj => by rw [cell_of_row _ _ _ _ _ _ hh, Array.getElem?_eq_getElem (by rw [hsz]; omega)]; rfl) (fun j hj => frozen_of_row _ b _ _ _ hh), ?_, ?_⟩
      · obtain ⟨cur', q1, q2, q3⟩ := heap_setCells b L (m * 2) _ _ _ hh
        refine ⟨hnl, .inr ⟨b, cA, cur', rfl, Nat.zero_le _, q1, by omega, by unfold maxLen; exact hcm, by rw [q2, hsz], ?_⟩⟩
        apply List.ext_getElem?
        intro j
        rw [List.getElem?_take]
        split
        · rename_i hj
          rw [Array.getElem?_toList, q3 j hj, List.getElem?_toArray, List.getElem?_append_left (by omega)]
        · rename_i hj
          rw [List.getElem?_eq_none (by omega)]
      · exact ((t9.mono (S := fun q => some b = some q) (fun _ _ h => h.elim)).setRow b _ (fun _ => rfl)).trans ((turn_setCells b L (m * 2) _).mono (fun q _ e => by rw [e])) (fun _ _ h => h)
    have KEY := Lib.hid KEY
    have hmz : m * 2 ≤ cA * 2 := by omega
    clear z1 z2 hL hlen i0 hi0 hz0 hz1 hz2
    unfold DlPost
    rw [← hmm]
    clear hmm
    by_cases hkc : k < cA
    · skip
      go_enter Try.func44, Try.ntmps44
      go_upto_region 5 with fail
      have HWS := Lib.hid (fun (w' : World) (k : Stp w.drew w') => show Turn (fun _ => False) w w' from Turn.of_below (stp_start k (Below.refl _ _)))
      refine wp_region_rel_tail 6 33 (by kernel_rfl) (by kernel_rfl) Stp [.one ?_, .one ?_, .one ?_, .one ?_, .one ?_, .one ?_] (by kernel_rfl) rfl (by kernel_rfl) Stp.refl Stp.trans trivial ?main
      case main =>
      simp only [List.take_succ_cons, List.take_zero, List.drop_succ_cons, List.drop_zero]
      iterate 6
        refine wpR_one (A' := ?_) Stp.refl (by rfl) _ rfl 33 (by rfl) (by rfl) ?_ ?_ ?_
        rotate_left 1
        · simp only [Act.put, List.setIfInBounds_toArray, List.set_cons_zero, List.set_cons_succ]; rfl
        · intro w1 hs hf K hK
          go_big_quiet_op
          first
            | go_big_quiet_on
            | (refine ⟨_, fun _ _ => rfl, ?_⟩; go_big_quiet_on)
          rfl
      intro w9 hs9 hf9
      have T9 := Lib.hid (HWS.out w9 hs9)
      clear hs9 HWS
      obtain ⟨w1, r1, w2, r2, ho2, t2⟩ := KEY.out w9 (k * 2) (cA - k) T9.out (.inr rfl)
      rw [HMM.out] at r1 r2
      have HO2 := Lib.hid ho2
      have HT2 := Lib.hid t2
      clear ho2 t2
      refine wpList_append_run (o := ⟨some 26, _, _, _, _, _⟩) rfl _ _ 27 rfl _ _ _ _ rfl rfl r1 ?_
      clear r1
      go_upto_region 6 with fail
      go_step
      iterate 15 go_step
      refine wpList_clear_run (o := ⟨none, _, _, _, _, _⟩) rfl _ 27 rfl _ _ _ rfl r2 ?_
      clear r2
      go_wp2
      go_ret
      exact ⟨by rw [HMM.out]; rfl, HO2.out, HT2.out⟩
    · obtain rfl : k = cA := by omega
      obtain rfl : k = n := by omega
      go_enter Try.func44, Try.ntmps44
      go_upto_region 5 with fail
      have HWS := Lib.hid (fun (w' : World) (k : Stp w.drew w') => show Turn (fun _ => False) w w' from Turn.of_below (stp_start k (Below.refl _ _)))
      refine wp_region_rel_tail 6 33 (by kernel_rfl) (by kernel_rfl) Stp [.one ?_, .one ?_, .one ?_, .one ?_, .one ?_, .one ?_] (by kernel_rfl) rfl (by kernel_rfl) Stp.refl Stp.trans trivial ?main
      case main =>
      simp only [List.take_succ_cons, List.take_zero, List.drop_succ_cons, List.drop_zero]
      iterate 6
        refine wpR_one (A' := ?_) Stp.refl (by rfl) _ rfl 33 (by rfl) (by rfl) ?_ ?_ ?_
        rotate_left 1
        · simp only [Act.put, List.setIfInBounds_toArray, List.set_cons_zero, List.set_cons_succ]; rfl
        · intro w1 hs hf K hK
          go_big_quiet_op
          first
            | go_big_quiet_on
            | (refine ⟨_, fun _ _ => rfl, ?_⟩; go_big_quiet_on)
          rfl
      intro w9 hs9 hf9
      have T9 := Lib.hid (HWS.out w9 hs9)
      clear hs9 HWS
      obtain ⟨w1, r1, w2, r2, ho2, t2⟩ := KEY.out w9 (0) (0) T9.out (.inl (by omega))
      rw [HMM.out] at r1 r2
      simp only [Nat.sub_self, Nat.zero_mul, Nat.sub_zero] at r1 r2
      have HO2 := Lib.hid ho2
      have HT2 := Lib.hid t2
      clear ho2 t2
      refine wpList_append_run (o := ⟨some 26, _, _, _, _, _⟩) rfl _ _ 27 rfl _ _ _ _ rfl rfl r1 ?_
      clear r1
      go_upto_region 6 with fail
      go_step
      iterate 15 go_step
      refine wpList_clear_run (o := ⟨none, _, _, _, _, _⟩) rfl _ 27 rfl _ _ _ rfl r2 ?_
      clear r2
      go_wp2
      go_ret
      exact ⟨by rw [HMM.out, Nat.sub_self]; rfl, HO2.out, HT2.out⟩
end Go.Proofs.Ytgjplbanfnomkaa
