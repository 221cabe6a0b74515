/- The document's number and its form of a ballot. -/
import Derived.Test.YtmkpoodhhpfgpaaVtU
import Derived.Test.YtmkpoodhhpfgpaaVtJ
import Derived.Test.YtmkpoodhhpfgpaaRel
import Derived.Test.YtmkpoodhhpfgpaaTail
import Derived.Test.YtmkpoodhhpfgpaaFwB
import Derived.Test.YtmkpoodhhpfgpaaCls
import Derived.IntWalk
import Derived.Laws.IdiomStrings
import Derived.Laws.BytesArg
set_option linter.unusedVariables false
set_option linter.unusedSimpArgs false
namespace Go.Proofs.Ytmkpoodhhpfgpaa
open Go.RowKit
set_option maxRecDepth 100000 in
set_option maxHeartbeats 1000000 in
theorem rnum_any (n : Nat) (w : World) (hn : n < 18446744073709551616) :
    Calls Try.prog 35 #[.int .u64 (n : Int)] w fun e w' => ∃ v, e = .returned v ∧ w'.ownsRow w.heap.size 5 1 v (numB n).length ((numB n).map bv) ∧ Turn (fun _ => False) w w' := by
  obtain ⟨i0, hi, hz0, hz1, hz2⟩ := info_parts info_u8
  have hk8 := klen_eight hn
  have HK8 := Lib.hid hk8
  go_enter Try.func35, Try.ntmps35
  go_wp2
  go_loop [3, 4] (fun k v => ∃ j q : Nat, k = .int .i64 j ∧ v = .int .u64 q ∧ j + klen q = klen n ∧ q < 18446744073709551616) (fun _ v => (intOf v).toNat)
  case atStart => exact ⟨0, n, rfl, rfl, by omega, hn⟩
  case round =>
    obtain ⟨j, q, rfl, rfl, hj, hq⟩ := hrel
    by_cases h0 : q = 0
    · subst h0
      rw [klen_zero] at hj
      obtain rfl : j = klen n := by omega
      obtain ⟨k, hkk⟩ : ∃ k, k = klen n := ⟨_, rfl⟩
      rw [← hkk] at hk8 ⊢
      have HN := Lib.hid (show numB n = BitVec.ofNat 8 k :: beN k n by rw [hkk]; rfl)
      clear hkk hj hq HK8
      have ho := own_new w w.heap.size 5 [bv (BitVec.ofNat 8 k)] 1 rfl (Nat.le_refl _) (by unfold maxLen; omega)
      have hkb : bv (BitVec.ofNat 8 k) = Value.int IntKind.u8 (k : Int) := by unfold bv; rw [BitVec.toNat_ofNat, Nat.mod_eq_of_lt (by omega)]
      rw [hkb] at ho
      have HO := Lib.hid ho
      have HT := Lib.hid ((Turn.refl (fun _ => False) w).alloc (.cells #[Value.int IntKind.u8 (k : Int)] 5))
      have HKB := Lib.hid hkb
      clear ho hkb
      go_wp2
      go_loopw [5, 6] (fun u i wr => ∃ (m : Nat) (z : Int) (W : List B8), i = .int .i64 z ∧ z ≤ (m : Int) - 1 ∧ (m : Int) - 1 ≤ z ∧ m ≤ k ∧ W ++ beN m n = numB n ∧ wr.ownsRow w.heap.size 5 1 u W.length (W.map bv) ∧ Turn (fun _ => False) w wr) (fun _ i _ => (intOf i + 1).toNat)
      case atStart => exact ⟨k, _, [BitVec.ofNat 8 k], rfl, by omega, by omega, Nat.le_refl _, by rw [HN.out]; rfl, by simp only [List.map_cons, List.map_nil, HKB.out]; exact HO.out, HT.out⟩
      case round =>
        clear HO HT
        obtain ⟨m, z, W, rfl, hz1', hz2', hmk, hW, hown, ht⟩ := hrel
        have hWl : W.length + m = 1 + k := by
          have := congrArg List.length hW
          rw [HN.out] at this
          simp [beN_len] at this; omega
        have HW := Lib.hid hW
        have HO := Lib.hid hown
        have HT := Lib.hid ht
        clear hW hown ht
        by_cases h0 : m = 0
        · subst h0
          obtain rfl : z = -1 := by omega
          have hW := HW.out
          rw [beN, List.append_nil] at hW
          subst hW
          go_wp2
          go_ret
          exact ⟨_, rfl, HO.out, HT.out⟩
        · obtain ⟨q, rfl⟩ : ∃ q, m = q + 1 := ⟨m - 1, by omega⟩
          obtain rfl : z = (q : Int) := by omega
          have hq8 : (8 * (q : Int)).toNat = 8 * q := by omega
          have hwr : IntKind.i64.wrap (8 * (q : Int)) = 8 * (q : Int) := IntWalk.i64_in _ (by omega)
          obtain ⟨y, hyy⟩ : ∃ y, y = BitVec.ofNat 8 (n / 256 ^ q) := ⟨_, rfl⟩
          have hy : IntKind.u8.wrap ((n : Int) / 2 ^ (8 * q)) = (y.toNat : Int) := by rw [hyy]; exact byte_int n q
          have HY := Lib.hid hyy
          clear hyy
          go_upto_region 10 with fail
          go_step
          iterate 21 go_step
          refine wpList_append_any_at (o := ⟨some 30, _, _, _, _, _⟩) rfl _ _ 42 rfl w.heap.size 5 i0 (.int .u8 0) 1 Try.underlying42 hi hz0 hz1 hz2 rfl u5 W.length _ rfl (HO.out.alloc _) (some ⟨wr.heap.size, 0, none⟩) 1 1 (([y] : List B8).map bv) rfl (fun h => by cases h) rfl ?_ (bv_one [y]) ?_ ?_ ?_ ?_
          · intro j u hu
            exact ⟨_, rfl, World.news_of_block (heap_alloc_new wr (.cells #[.int .u8 (y.toNat : Int)] 5)) j u hu⟩
          · unfold maxLen; omega
          · omega
          · have := HT.out.size; simp; omega
          intro v1 w1 own1 gr1 at1
          have HO1 := Lib.hid own1
          have HT1 := Lib.hid ((HT.out.alloc (.cells #[.int .u8 (y.toNat : Int)] 5)).grown gr1 (fun i hi e => by have := (HO.out.lt i e.symm).1; omega))
          clear own1 gr1 at1
          go_wp2
          go_roundw
          case rel => exact ⟨q, _, W ++ [y], rfl, by omega, by omega, by omega, by rw [← HW.out, HY.out, beN_cons]; simp, by rw [List.length_append, List.map_append]; exact HO1.out, HT1.out⟩
          case measure => simp [intOf]
    · have hd : klen q = klen (q / 256) + 1 := klen_pos h0
      have hp : (0 : Int) < (q : Int) := by omega
      have hj8 : j ≤ 8 := by omega
      have HD := Lib.hid (show (j + 1) + klen (q / 256) = klen n by omega)
      clear hd hj
      go_wp2
      go_round
      case rel => exact ⟨j + 1, q / 256, by go_num, by go_num, HD.out, by omega⟩
      case measure => simp [intOf]; omega

theorem cls_load_cell {P : Program} {C : World → Prop} {o : Oper} {a : Act} {K : Act → Prop} (ty : TypeId) (x : Operand) (ho : o.op = .load ty x) (ad : Addr) (hx : a.eval x = .pointer (some ad)) (v : Value) (hr : ∀ w, w.cell? ad = some v → (Instr.loadAt ty (.pointer (some ad))).run P w = .ok v w)
    (hS : ∀ w, C w → w.cell? ad = some v) (hK : K (a.put o.dst v)) : o.quiet P a C K :=
  ⟨_, fun w hw => by
    unfold Oper.quietAt execOp
    simp only [ho, hx, Sem.run_bind, hr w (hS w hw), Result.andThen_ok, Sem.run_pure, Oper.quietUpon, and_self], hK⟩
set_option maxRecDepth 100000 in
set_option maxHeartbeats 4000000 in
theorem rput_any (t f : Int) (w : World) (hok : okB t f = true) :
    Calls Try.prog 24 #[blV t f] w fun r w' => ∃ u, r = .returned u ∧ w'.ownsRow w.heap.size 5 1 u (formB t f).length ((formB t f).map bv) ∧ Turn (fun _ => False) w w' := by
  obtain ⟨i0, hi, hz0, hz1, hz2⟩ := info_parts info_u8
  obtain ⟨T0, F0, rfl, hf, hT, hF, hfm⟩ := okB_nat hok
  rw [hfm]
  obtain ⟨w0, hw0⟩ : ∃ w0, w0 = w.alloc (.cells (blC (T0 : Int) f) 23) := ⟨_, rfl⟩
  have t0 : Turn (fun _ => False) w w0 := by rw [hw0]; exact (Turn.refl _ _).alloc _
  have e0 : BBx w0 w.heap.size (T0 : Int) f := by rw [hw0]; exact BBx.new _ _ _
  have CF := Lib.hid (fun (w' : World) (k : Turn (fun _ => False) w0 w') => (e0.turn k (fun h => h)).cells.1)
  have n1 := numB_le (n := T0) (by omega)
  have n2 := numB_le (n := F0) (by omega)
  have NK := Lib.hid (fun w => rnum_any T0 w (by omega))
  have NS := Lib.hid (fun w => rnum_any F0 w (by omega))
  have hf0 : -1 ≤ f ∧ f ≤ 6 := by omega
  have hbs : w.heap.size < w0.heap.size := lt_of_block e0
  have T0h := Lib.hid t0
  have HWS := Lib.hid (fun (w' : World) (k : Stp w0.drew w') => show Turn (fun _ => False) w0 w' from Turn.of_below (stp_start k (Below.refl _ _)))
  clear t0 e0 hok hfm
  go_enter Try.func24, Try.ntmps24
  go_upto_region 1 with fail
  change Code.wp _ _ _ _ (w.alloc (.cells (blC (T0 : Int) f) 23))
  rw [← hw0]
  clear hw0
  refine wp_region_rel_tail 9 13 (by kernel_rfl) (by kernel_rfl) Stp [.one ?_, .one ?_, .one ?_, .rel (fun v w => w.ownsRow w0.heap.size 5 1 v (numB T0).length ((numB T0).map bv)), .one ?_, .one ?_, .one ?_, .one ?_, .rel (fun v w => w.ownsRow w0.heap.size 5 1 v (numB F0).length ((numB F0).map bv))] (by kernel_rfl) rfl (by kernel_rfl) Stp.refl Stp.trans ⟨fun v w w' h1 h2 => own_below h1 h2, fun v w w' h1 h2 => own_below h1 h2, trivial⟩ ?main
  case main =>
  simp only [List.take_succ_cons, List.take_zero, List.drop_succ_cons, List.drop_zero]
  iterate 1
    refine wpR_one (A' := ?_) Stp.refl (by rfl) _ rfl 13 (by rfl) (by rfl) ?_ ?_ ?_
    rotate_left 1
    · simp only [Act.put, List.setIfInBounds_toArray, List.set_cons_zero, List.set_cons_succ]; rfl
    · intro w1 hs hf K hK
      go_big_quiet_op
      first
        | go_big_quiet_on
        | (refine ⟨_, fun _ _ => rfl, ?_⟩; go_big_quiet_on)
      rfl
  refine wpR_one (A' := ?_) Stp.refl (by rfl) _ rfl 13 (by rfl) (by rfl) ?_ ?_ ?_
  rotate_left 1
  · simp only [Act.put, List.setIfInBounds_toArray, List.set_cons_zero, List.set_cons_succ]; rfl
  · intro w1 hs hf K hK
    refine cls_load_cell 3 (.tmp 3) rfl ⟨w.heap.size, 0, none⟩ rfl (.int .i64 (T0 : Int)) (fun w h => by simp [go_sem, h]) (fun w2 h2 => (CF.out w2 (HWS.out w2 (Stp.trans _ _ _ hs h2))).1) ?_
    refine hK _ ?_
    simp only [Act.put, List.setIfInBounds_toArray, List.set_cons_zero, List.set_cons_succ]
    rfl
  iterate 1
    refine wpR_one (A' := ?_) Stp.refl (by rfl) _ rfl 13 (by rfl) (by rfl) ?_ ?_ ?_
    rotate_left 1
    · simp only [Act.put, List.setIfInBounds_toArray, List.set_cons_zero, List.set_cons_succ]; rfl
    · intro w1 hs hf K hK
      go_big_quiet_op
      first
        | go_big_quiet_on
        | (refine ⟨_, fun _ _ => rfl, ?_⟩; go_big_quiet_on)
      rfl
  refine wpR_rel (A' := ?_) (by rfl) ?_ ?_ ?_
  · intro w1 hs hf
    have hz : w0.heap.size ≤ w1.heap.size := Below.size (w := w0.drew) hs
    refine does_call (w' := w1) (f := 35) (args := #[.int .u64 (T0 : Int)]) (by kernel_rfl) ((NK.out w1).mono ?_)
    rintro e w3 ⟨v, rfl, ho, h3⟩
    exact ⟨v, rfl, own_more ho hz, below_of h3⟩
  rotate_left 1
  · intro x
    simp only [Act.put, List.setIfInBounds_toArray, List.set_cons_zero, List.set_cons_succ]; rfl
  intro x6
  iterate 1
    refine wpR_one (A' := ?_) Stp.refl (by rfl) _ rfl 13 (by rfl) (by rfl) ?_ ?_ ?_
    rotate_left 1
    · simp only [Act.put, List.setIfInBounds_toArray, List.set_cons_zero, List.set_cons_succ]; rfl
    · intro w1 hs hf K hK
      go_big_quiet_op
      first
        | go_big_quiet_on
        | (refine ⟨_, fun _ _ => rfl, ?_⟩; go_big_quiet_on)
      rfl
  refine wpR_one (A' := ?_) Stp.refl (by rfl) _ rfl 13 (by rfl) (by rfl) ?_ ?_ ?_
  rotate_left 1
  · simp only [Act.put, List.setIfInBounds_toArray, List.set_cons_zero, List.set_cons_succ]; rfl
  · intro w1 hs hf K hK
    refine cls_load_cell 3 (.tmp 7) rfl ⟨w.heap.size, 1, none⟩ rfl (.int .i64 (f)) (fun w h => by simp [go_sem, h]) (fun w2 h2 => (CF.out w2 (HWS.out w2 (Stp.trans _ _ _ hs h2))).2) ?_
    refine hK _ ?_
    simp only [Act.put, List.setIfInBounds_toArray, List.set_cons_zero, List.set_cons_succ]
    rfl
  iterate 2
    refine wpR_one (A' := ?_) Stp.refl (by rfl) _ rfl 13 (by rfl) (by rfl) ?_ ?_ ?_
    rotate_left 1
    · simp only [Act.put, List.setIfInBounds_toArray, List.set_cons_zero, List.set_cons_succ]; rfl
    · intro w1 hs hf K hK
      go_big_quiet_op
      first
        | go_big_quiet_on
        | (refine ⟨_, fun _ _ => rfl, ?_⟩; go_big_quiet_on)
      rfl
  refine wpR_rel (A' := ?_) (by rfl) ?_ ?_ ?_
  · intro w1 hs hf
    have hz : w0.heap.size ≤ w1.heap.size := Below.size (w := w0.drew) hs
    refine does_call (w' := w1) (f := 35) (args := #[.int .u64 (F0 : Int)]) (by kernel_rfl) ((NS.out w1).mono ?_)
    rintro e w3 ⟨v, rfl, ho, h3⟩
    exact ⟨v, rfl, own_more ho hz, below_of h3⟩
  rotate_left 1
  · intro x
    simp only [Act.put, List.setIfInBounds_toArray, List.set_cons_zero, List.set_cons_succ]; rfl
  intro x11
  intro w1 hs1 hfc
  obtain ⟨h11, h7, -⟩ := hfc
  obtain ⟨A11, c11, rfl, sl11, -, hc11, ha11⟩ := own_sl h11
  have HT1 := Lib.hid (HWS.out w1 hs1)
  have O7 := Lib.hid h7
  have S11 := Lib.hid sl11
  have AN11 := Lib.hid ha11
  clear h7 h11 sl11 hc11 ha11 hs1
  refine wpList_append_any_at (o := ⟨some 12, _, _, _, _, _⟩) rfl _ _ 42 rfl w0.heap.size 5 i0 (.int .u8 0) 1 Try.underlying42 hi hz0 hz1 hz2 rfl _ _ _ rfl O7.out A11 _ c11 ((numB F0).map bv) rfl AN11.out (by rw [List.length_map]) (fun j u hu => (S11.out j u hu).elim fun ad h => ⟨ad, h.1, h.2.2⟩) (bv_one _) (by unfold maxLen; omega) (by omega) (HT1.out.size) ?_
  intro v2 w2 g1 g2 g3
  have HO2 := Lib.hid (show w2.ownsRow w0.heap.size 5 1 v2 (numB T0 ++ numB F0).length ((numB T0 ++ numB F0).map bv) by rw [List.length_append, List.map_append]; exact g1)
  have HT2 := Lib.hid (HT1.out.grown g2 (fun i hi e => by have := (O7.out.lt i e.symm).1; omega))
  clear g1 g2 g3
  go_wp2
  go_ret
  exact ⟨v2, rfl, by have := own_more HO2.out (Nat.le_of_lt hbs); simpa only [List.length_append, List.map_append] using this, T0h.out.trans HT2.out (fun _ _ h => h)⟩
end Go.Proofs.Ytmkpoodhhpfgpaa
