/- The document's Num and Bytes, and its 'Put'. -/
import Derived.Test.YtomflniknnenaaaEnD
import Derived.IntWalk
import Derived.Test.YtomflniknnenaaaCls
set_option linter.unusedVariables false
set_option linter.unusedSimpArgs false
namespace Go.Proofs.Ytomflniknnenaaa
open Go.RowKit
theorem one_new (w : World) (x : Value) (t : TypeId) : ∀ (j : Nat) (u : Value), [x][j]? = some u → ∃ ad, some (⟨w.heap.size, 0, none⟩ : Addr) = some ad ∧ (w.alloc (.cells #[x] t)).cell? (ad.add j) = some u := by
  intro j u h
  match j, h with
  | 0, h =>
    simp at h; subst h
    refine ⟨_, rfl, ?_⟩
    rw [show ((⟨w.heap.size, 0, none⟩ : Addr).add 0) = ⟨w.heap.size, 0, none⟩ from rfl, World.cell?_alloc_at _ _ _ _ rfl]; rfl
set_option maxRecDepth 100000 in
theorem beN_cons (q n : Nat) : beN (q + 1) n = BitVec.ofNat 8 (n / 256 ^ q) :: beN q n := rfl
set_option maxRecDepth 100000 in
theorem byte_int (n q : Nat) : IntKind.u8.wrap ((n : Int) / 2 ^ (8 * q)) = ((BitVec.ofNat 8 (n / 256 ^ q)).toNat : Int) := by
  rw [IntKind.wrap_u8, BitVec.toNat_ofNat, show (2 : Int) ^ (8 * q) = ((256 ^ q : Nat) : Int) by rw [Int.natCast_pow, Int.pow_mul]; rfl]
  omega
set_option maxRecDepth 100000 in
set_option maxHeartbeats 1000000 in
theorem rnum_any (n : Nat) (w : World) (hn : n < 18446744073709551616) :
    Calls Try.prog 22 #[.int .u64 (n : Int)] w fun e w' => ∃ v, e = .returned v ∧ w'.ownsRow w.heap.size 5 1 v (numB n).length ((numB n).map bv) ∧ Turn (fun _ => False) w w' := by
  obtain ⟨i0, hi, hz0, hz1, hz2⟩ := info_parts info_u8
  have hk8 := klen_eight hn
  have HK8 := Lib.hid hk8
  go_enter Try.func22, Try.ntmps22
  go_wp2
  go_loop [3, 4] (fun k v => ∃ j q : Nat, k = .int .i64 j ∧ v = .int .u64 q ∧ j + klen q = klen n ∧ q < 18446744073709551616) (fun _ v => (intOf v).toNat)
  case atStart => exact ⟨0, n, rfl, rfl, by omega, hn⟩
  case round =>
    obtain ⟨j, q, rfl, rfl, hj, hq⟩ := hrel
    by_cases h0 : q = 0
    · subst h0
      rw [klen_zero] at hj
      obtain rfl : j = klen n := by omega
      obtain ⟨k, hkk⟩ : ∃ k, k = klen n := ⟨_, rfl⟩
      rw [← hkk] at hk8 ⊢
      have HN := Lib.hid (show numB n = BitVec.ofNat 8 k :: beN k n by rw [hkk]; rfl)
      clear hkk hj hq HK8
      have ho := own_new w w.heap.size 5 [bv (BitVec.ofNat 8 k)] 1 rfl (Nat.le_refl _) (by unfold maxLen; omega)
      have hkb : bv (BitVec.ofNat 8 k) = Value.int IntKind.u8 (k : Int) := by unfold bv; rw [BitVec.toNat_ofNat, Nat.mod_eq_of_lt (by omega)]
      rw [hkb] at ho
      have HO := Lib.hid ho
      have HT := Lib.hid ((Turn.refl (fun _ => False) w).alloc (.cells #[Value.int IntKind.u8 (k : Int)] 5))
      have HKB := Lib.hid hkb
      clear ho hkb
      go_wp2
      go_loopw [5, 6] (fun u i wr => ∃ (m : Nat) (z : Int) (W : List B8), i = .int .i64 z ∧ z ≤ (m : Int) - 1 ∧ (m : Int) - 1 ≤ z ∧ m ≤ k ∧ W ++ beN m n = numB n ∧ wr.ownsRow w.heap.size 5 1 u W.length (W.map bv) ∧ Turn (fun _ => False) w wr) (fun _ i _ => (intOf i + 1).toNat)
      case atStart => exact ⟨k, _, [BitVec.ofNat 8 k], rfl, by omega, by omega, Nat.le_refl _, by rw [HN.out]; rfl, by simp only [List.map_cons, List.map_nil, HKB.out]; exact HO.out, HT.out⟩
      case round =>
        clear HO HT
        obtain ⟨m, z, W, rfl, hz1', hz2', hmk, hW, hown, ht⟩ := hrel
        have hWl : W.length + m = 1 + k := by
          have := congrArg List.length hW
          rw [HN.out] at this
          simp [beN_len] at this; omega
        have HW := Lib.hid hW
        have HO := Lib.hid hown
        have HT := Lib.hid ht
        clear hW hown ht
        by_cases h0 : m = 0
        · subst h0
          obtain rfl : z = -1 := by omega
          have hW := HW.out
          rw [beN, List.append_nil] at hW
          subst hW
          go_wp2
          go_ret
          exact ⟨_, rfl, HO.out, HT.out⟩
        · obtain ⟨q, rfl⟩ : ∃ q, m = q + 1 := ⟨m - 1, by omega⟩
          obtain rfl : z = (q : Int) := by omega
          have hq8 : (8 * (q : Int)).toNat = 8 * q := by omega
          have hwr : IntKind.i64.wrap (8 * (q : Int)) = 8 * (q : Int) := IntWalk.i64_in _ (by omega)
          obtain ⟨y, hyy⟩ : ∃ y, y = BitVec.ofNat 8 (n / 256 ^ q) := ⟨_, rfl⟩
          have hy : IntKind.u8.wrap ((n : Int) / 2 ^ (8 * q)) = (y.toNat : Int) := by rw [hyy]; exact byte_int n q
          have HY := Lib.hid hyy
          clear hyy
          go_upto_region 10 with fail
          go_step
          iterate 21 go_step
          refine wpList_append_any_at (o := ⟨some 30, _, _, _, _, _⟩) rfl _ _ 27 rfl w.heap.size 5 i0 (.int .u8 0) 1 Try.underlying27 hi hz0 hz1 hz2 rfl u5 W.length _ rfl (HO.out.alloc _) (some ⟨wr.heap.size, 0, none⟩) 1 1 (([y] : List B8).map bv) rfl (fun h => by cases h) rfl ?_ (bv_one [y]) ?_ ?_ ?_ ?_
          · intro j u hu
            exact ⟨_, rfl, World.news_of_block (heap_alloc_new wr (.cells #[.int .u8 (y.toNat : Int)] 5)) j u hu⟩
          · unfold maxLen; omega
          · omega
          · have := HT.out.size; simp; omega
          intro v1 w1 own1 gr1 at1
          have HO1 := Lib.hid own1
          have HT1 := Lib.hid ((HT.out.alloc (.cells #[.int .u8 (y.toNat : Int)] 5)).grown gr1 (fun i hi e => by have := (HO.out.lt i e.symm).1; omega))
          clear own1 gr1 at1
          go_wp2
          go_roundw
          case rel => exact ⟨q, _, W ++ [y], rfl, by omega, by omega, by omega, by rw [← HW.out, HY.out, beN_cons]; simp, by rw [List.length_append, List.map_append]; exact HO1.out, HT1.out⟩
          case measure => simp [intOf]
    · have hd : klen q = klen (q / 256) + 1 := klen_pos h0
      have hp : (0 : Int) < (q : Int) := by omega
      have hj8 : j ≤ 8 := by omega
      have HD := Lib.hid (show (j + 1) + klen (q / 256) = klen n by omega)
      clear hd hj
      go_wp2
      go_round
      case rel => exact ⟨j + 1, q / 256, by go_num, by go_num, HD.out, by omega⟩
      case measure => simp [intOf]; omega
set_option maxRecDepth 100000 in
theorem own_all {w : World} {B n : Nat} {e : TypeId} {v : Value} {d : List B8} (h : w.ownsRow (B + 1) e 1 v n ((d.take n).map bv)) (hd : d.length = n) : w.ownsRow B e 1 v n (d.map bv) := by
  have := own_more h (base' := B) (by omega)
  rwa [List.take_of_length_le (by omega)] at this
set_option maxRecDepth 100000 in
set_option maxHeartbeats 2000000 in
theorem rbytesId_any (d : List B8) (w : World) (hd : d.length = 32) :
    Calls Try.prog 23 #[.agg (d.map bv).toArray] w fun e w' => ∃ v, e = .returned v ∧ w'.ownsRow w.heap.size 5 1 v 32 (d.map bv) ∧ Below w.heap.size w w' := by
  obtain ⟨i0, hi, hz0, hz1, hz2⟩ := info_parts info_u8
  obtain ⟨D, hD⟩ : ∃ D, D = (d.map bv).toArray := ⟨_, rfl⟩
  rw [← hD]
  obtain ⟨wz, hwz⟩ : ∃ wz, wz = w.alloc (.cells D 23) := ⟨_, rfl⟩
  have HBz := Lib.hid (show Below w.heap.size w wz by rw [hwz]; exact (Below.refl _ _).alloc (Nat.le_refl _) _)
  have HSz := Lib.hid (show wz.heap.size = w.heap.size + 1 by rw [hwz]; simp)
  have HC := Lib.hid (show ∀ (k : Nat) (hk : k < d.length), wz.cell? ⟨w.heap.size, k, none⟩ = some (bv d[k]) from fun k hk => by
    rw [hwz, cell_of_row _ _ _ _ _ _ (heap_alloc_new w _), hD, List.getElem?_toArray, List.getElem?_map, List.getElem?_eq_getElem hk]; rfl)
  have HD := Lib.hid hd
  clear hD hd
  go_enter Try.func23, Try.ntmps23
  go_upto_region 1 with fail
  change Code.wp _ _ _ _ (w.alloc (.cells D 23))
  rw [← hwz]
  clear hwz
  go_wp2
  go_loopw [3, 4] (fun v i wr => ∃ k : Nat, k ≤ 32 ∧ i = .int .i64 k ∧ wr.ownsRow (w.heap.size + 1) 5 1 v k ((d.take k).map bv) ∧ Below (w.heap.size + 1) wz wr) (fun _ i _ => 32 - (intOf i).toNat)
  case atStart => exact ⟨0, Nat.zero_le _, rfl, World.ownsRow_nil _ _ _ _, Below.refl _ _⟩
  case round =>
    obtain ⟨k, hk, rfl, ho, hb⟩ := hrel
    have HO := Lib.hid ho
    have HB := Lib.hid hb
    clear ho
    have hsz : w.heap.size + 1 ≤ wr.heap.size := by have := hb.size; rw [HSz.out] at this; exact this
    by_cases hlt : k < 32
    · have hkd : k < d.length := by rw [HD.out]; exact hlt
      have hcell : wr.cell? ⟨w.heap.size, k, none⟩ = some (bv d[k]) := (hb.cell (by show w.heap.size < _; omega)).trans (HC.out k hkd)
      have HT := Lib.hid (show (d.take (k + 1)).map bv = (d.take k).map bv ++ [bv d[k]] by rw [List.take_succ_eq_append_getElem hkd, List.map_append]; rfl)
      clear hb
      generalize d[k] = x at *
      unfold bv at hcell
      go_wp2_with (at_builtin; refine stop ?_)
      unfold Stop
      have ha : Below wr.heap.size wr (wr.alloc (.cells #[.int .u8 (x.toNat : Int)] 5)) := (Below.refl _ _).alloc (Nat.le_refl _) _
      have HO2 := Lib.hid (own_below HO.out ha)
      have HB2 := Lib.hid (HB.out.trans (ha.mono hsz))
      clear ha hcell
      refine wpList_append_any (o := ⟨some 14, _, _, _, _, _⟩) rfl _ _ 27 rfl (w.heap.size + 1) 5 i0 (.int .u8 0) 1 Try.underlying27 hi hz0 hz1 hz2 rfl _ k _ rfl HO2.out (some ⟨wr.heap.size, 0, none⟩) 1 1 [bv x] rfl (fun h => by cases h) rfl ?_ (bv_one [x]) ?_ ?_ ?_ ?_
      · exact one_new wr (bv x) _
      · unfold maxLen; omega
      · omega
      · simp; omega
      intro v3 w3 g1 g2
      have HO3 := Lib.hid (show w3.ownsRow (w.heap.size + 1) 5 1 v3 (k + 1) ((d.take (k + 1)).map bv) by rw [HT.out]; exact g1)
      have HB3 := Lib.hid (HB2.out.grown g2 (by simp; omega) (fun k hk => (HO2.out.lt k hk).1))
      clear g1 g2
      go_wp2_with fail
      go_roundw
      case rel => exact ⟨k + 1, by omega, by go_num, HO3.out, HB3.out⟩
      case measure => simp [intOf]; omega
    · obtain rfl : k = 32 := by omega
      have HB3 := Lib.hid (HBz.out.trans (HB.out.mono (by omega)))
      have HO3 := Lib.hid (own_all HO.out HD.out)
      clear hb
      go_wp2_with fail
      go_ret
      exact ⟨_, rfl, HO3.out, HB3.out⟩
theorem cls_load_cell {P : Program} {C : World → Prop} {o : Oper} {a : Act} {K : Act → Prop} (ty : TypeId) (x : Operand) (ho : o.op = .load ty x) (ad : Addr) (hx : a.eval x = .pointer (some ad)) (v : Value) (hr : ∀ w, w.cell? ad = some v → (Instr.loadAt ty (.pointer (some ad))).run P w = .ok v w)
    (hS : ∀ w, C w → w.cell? ad = some v) (hK : K (a.put o.dst v)) : o.quiet P a C K :=
  ⟨_, fun w hw => by
    unfold Oper.quietAt execOp
    simp only [ho, hx, Sem.run_bind, hr w (hS w hw), Result.andThen_ok, Sem.run_pure, Oper.quietUpon, and_self], hK⟩
attribute [local go_sem ↓] loadAt_en loadAt_id
attribute [local go_sem] run_enLoad run_idLoad rowOf_drew rowOf_drewN
theorem turn_stp' {w w' : World} (t : Turn (fun _ => False) w w') : Below w.heap.size w w' := t.below (fun _ _ h => h.elim) (Nat.le_refl _)
set_option maxRecDepth 100000 in
set_option maxHeartbeats 8000000 in
theorem rput_any (k s : Nat) (d : List B8) (a y p : Nat) (w : World) (hd : d.length = 32) (hk : k ≤ 3) (hs : s ≤ 63) (ha : a ≤ 4611686018427387904) (hy : y ≤ 63) (hp : p ≤ 1099511627776) :
    Calls Try.prog 13 #[.agg (eN k s d a y p).cells.toArray] w fun r w' => ∃ u, r = .returned u ∧ w'.ownsRow w.heap.size 5 1 u (fE k s d a y p).length ((fE k s d a y p).map bv) ∧ Turn (fun _ => False) w w' := by
  obtain ⟨i0, hi, hz0, hz1, hz2⟩ := info_parts info_u8
  obtain ⟨C, hC⟩ : ∃ C, C = (eN k s d a y p).cells.toArray := ⟨_, rfl⟩
  rw [← hC]
  obtain ⟨w0, hw0⟩ : ∃ w0, w0 = w.alloc (.cells C 26) := ⟨_, rfl⟩
  have t0 : Turn (fun _ => False) w w0 := by rw [hw0]; exact (Turn.refl _ _).alloc _
  have e0 : EAt w0 w.heap.size (eN k s d a y p) := by rw [hw0, hC]; exact heap_alloc_new _ _
  have CF := Lib.hid (show ∀ w' : World, Turn (fun _ => False) w0 w' → (w'.cell? ⟨w.heap.size, 0, none⟩ = some (.int .i64 (k : Int)) ∧ w'.cell? ⟨w.heap.size, 1, none⟩ = some (.int .i64 (s : Int)) ∧ w'.cell? ⟨w.heap.size, 34, none⟩ = some (.int .u64 (a : Int)) ∧ w'.cell? ⟨w.heap.size, 35, none⟩ = some (.int .i64 (y : Int)) ∧ w'.cell? ⟨w.heap.size, 36, none⟩ = some (.int .i64 (p : Int))) ∧ rowOf w' w.heap.size 2 32 = some (d.map bv).toArray from fun w' t => have g := e0.turn t (fun h => h); ⟨g.c hd, g.dig hd⟩)
  have n1 := numB_le (n := k) (by omega)
  have n2 := numB_le (n := s) (by omega)
  have n3 := numB_le (n := a) (by omega)
  have n4 := numB_le (n := y) (by omega)
  have n5 := numB_le (n := p) (by omega)
  have NK := Lib.hid (fun w => rnum_any k w (by omega))
  have NS := Lib.hid (fun w => rnum_any s w (by omega))
  have NA := Lib.hid (fun w => rnum_any a w (by omega))
  have NY := Lib.hid (fun w => rnum_any y w (by omega))
  have NP := Lib.hid (fun w => rnum_any p w (by omega))
  have ND := Lib.hid (fun w => rbytesId_any d w hd)
  have HD := Lib.hid hd
  have HF := Lib.hid (show fE k s d a y p = numB k ++ (numB s ++ (d ++ (numB a ++ (numB y ++ numB p)))) from rfl)
  have hbs : w.heap.size < w0.heap.size := e0.lt
  generalize fE k s d a y p = F at *
  obtain ⟨D, hDD⟩ : ∃ D, D = (d.map bv).toArray := ⟨_, rfl⟩
  rw [← hDD] at CF ND
  have T0 := Lib.hid t0
  have HWS := Lib.hid (fun (w' : World) (k : Stp w0.drew w') => show Turn (fun _ => False) w0 w' from Turn.of_below (stp_start k (Below.refl _ _)))
  clear t0 e0 hC hd hDD
  go_enter Try.func13, Try.ntmps13
  go_upto_region 1 with fail
  change Code.wp _ _ _ _ (w.alloc (.cells C 26))
  rw [← hw0]
  clear hw0
  refine wp_region_rel_tail 8 35 (by kernel_rfl) (by kernel_rfl) Stp [.one ?_, .one ?_, .one ?_, .rel (fun v w => w.ownsRow w0.heap.size 5 1 v (numB k).length ((numB k).map bv)), .one ?_, .one ?_, .one ?_, .rel (fun v w => w.ownsRow w0.heap.size 5 1 v (numB s).length ((numB s).map bv))] (by kernel_rfl) rfl (by kernel_rfl) Stp.refl Stp.trans ⟨fun v w w' h1 h2 => own_below h1 h2, fun v w w' h1 h2 => own_below h1 h2, trivial⟩ ?main
  case main =>
  simp only [List.take_succ_cons, List.take_zero, List.drop_succ_cons, List.drop_zero]
  iterate 1
    refine wpR_one (A' := ?_) Stp.refl (by rfl) _ rfl 35 (by rfl) (by rfl) ?_ ?_ ?_
    rotate_left 1
    · simp only [Act.put, List.setIfInBounds_toArray, List.set_cons_zero, List.set_cons_succ]; rfl
    · intro w1 hs hf K hK
      go_big_quiet_op
      first
        | go_big_quiet_on
        | (refine ⟨_, fun _ _ => rfl, ?_⟩; go_big_quiet_on)
      rfl
  refine wpR_one (A' := ?_) Stp.refl (by rfl) _ rfl 35 (by rfl) (by rfl) ?_ ?_ ?_
  rotate_left 1
  · simp only [Act.put, List.setIfInBounds_toArray, List.set_cons_zero, List.set_cons_succ]; rfl
  · intro w1 hs hf K hK
    refine cls_load_cell 3 (.tmp 4) rfl ⟨w.heap.size, 0, none⟩ rfl (.int .i64 (k : Int)) (fun w h => by simp [go_sem, h]) (fun w2 h2 => (CF.out w2 (HWS.out w2 (Stp.trans _ _ _ hs h2))).1.1) ?_
    refine hK _ ?_
    simp only [Act.put, List.setIfInBounds_toArray, List.set_cons_zero, List.set_cons_succ]
    rfl
  iterate 1
    refine wpR_one (A' := ?_) Stp.refl (by rfl) _ rfl 35 (by rfl) (by rfl) ?_ ?_ ?_
    rotate_left 1
    · simp only [Act.put, List.setIfInBounds_toArray, List.set_cons_zero, List.set_cons_succ]; rfl
    · intro w1 hs hf K hK
      go_big_quiet_op
      first
        | go_big_quiet_on
        | (refine ⟨_, fun _ _ => rfl, ?_⟩; go_big_quiet_on)
      rfl
  refine wpR_rel (A' := ?_) (by rfl) ?_ ?_ ?_
  · intro w1 hs hf
    have hz : w0.heap.size ≤ w1.heap.size := Below.size (w := w0.drew) hs
    refine does_call (w' := w1) (f := 22) (args := #[.int .u64 (k : Int)]) (by kernel_rfl) ((NK.out w1).mono ?_)
    rintro e w3 ⟨v, rfl, ho, h3⟩
    exact ⟨v, rfl, own_more ho hz, turn_stp' h3⟩
  rotate_left 1
  · intro x
    simp only [Act.put, List.setIfInBounds_toArray, List.set_cons_zero, List.set_cons_succ]; rfl
  intro x7
  iterate 1
    refine wpR_one (A' := ?_) Stp.refl (by rfl) _ rfl 35 (by rfl) (by rfl) ?_ ?_ ?_
    rotate_left 1
    · simp only [Act.put, List.setIfInBounds_toArray, List.set_cons_zero, List.set_cons_succ]; rfl
    · intro w1 hs hf K hK
      go_big_quiet_op
      first
        | go_big_quiet_on
        | (refine ⟨_, fun _ _ => rfl, ?_⟩; go_big_quiet_on)
      rfl
  refine wpR_one (A' := ?_) Stp.refl (by rfl) _ rfl 35 (by rfl) (by rfl) ?_ ?_ ?_
  rotate_left 1
  · simp only [Act.put, List.setIfInBounds_toArray, List.set_cons_zero, List.set_cons_succ]; rfl
  · intro w1 hs hf K hK
    refine cls_load_cell 3 (.tmp 8) rfl ⟨w.heap.size, 1, none⟩ rfl (.int .i64 (s : Int)) (fun w h => by simp [go_sem, h]) (fun w2 h2 => (CF.out w2 (HWS.out w2 (Stp.trans _ _ _ hs h2))).1.2.1) ?_
    refine hK _ ?_
    simp only [Act.put, List.setIfInBounds_toArray, List.set_cons_zero, List.set_cons_succ]
    rfl
  iterate 1
    refine wpR_one (A' := ?_) Stp.refl (by rfl) _ rfl 35 (by rfl) (by rfl) ?_ ?_ ?_
    rotate_left 1
    · simp only [Act.put, List.setIfInBounds_toArray, List.set_cons_zero, List.set_cons_succ]; rfl
    · intro w1 hs hf K hK
      go_big_quiet_op
      first
        | go_big_quiet_on
        | (refine ⟨_, fun _ _ => rfl, ?_⟩; go_big_quiet_on)
      rfl
  refine wpR_rel (A' := ?_) (by rfl) ?_ ?_ ?_
  · intro w1 hs hf
    have hz : w0.heap.size ≤ w1.heap.size := Below.size (w := w0.drew) hs
    refine does_call (w' := w1) (f := 22) (args := #[.int .u64 (s : Int)]) (by kernel_rfl) ((NS.out w1).mono ?_)
    rintro e w3 ⟨v, rfl, ho, h3⟩
    exact ⟨v, rfl, own_more ho hz, turn_stp' h3⟩
  rotate_left 1
  · intro x
    simp only [Act.put, List.setIfInBounds_toArray, List.set_cons_zero, List.set_cons_succ]; rfl
  intro x11
  intro w1 hs1 hf
  obtain ⟨h11, h7, -⟩ := hf
  obtain ⟨A11, c11, rfl, sl11, -, hc11, ha11⟩ := own_sl h11
  have HT1 := Lib.hid (HWS.out w1 hs1)
  have O7 := Lib.hid h7
  have S11 := Lib.hid sl11
  have AN11 := Lib.hid ha11
  clear h7 h11 sl11 hc11 ha11 hs1
  refine wpList_append_any_at (o := ⟨some 12, _, _, _, _, _⟩) rfl _ _ 27 rfl w0.heap.size 5 i0 (.int .u8 0) 1 Try.underlying27 hi hz0 hz1 hz2 rfl _ _ _ rfl O7.out A11 _ c11 ((numB s).map bv) rfl AN11.out (by rw [List.length_map]) (fun j u hu => (S11.out j u hu).elim fun ad h => ⟨ad, h.1, h.2.2⟩) (bv_one _) (by unfold maxLen; (try simp only [List.length_append]); have := HD.out; omega) (by (try simp only [List.length_append]); have := HD.out; omega) (HT1.out.size) ?_
  intro v2 w2 g1 g2 g3
  have HO2 := Lib.hid (show w2.ownsRow w0.heap.size 5 1 v2 (numB k ++ numB s).length ((numB k ++ numB s).map bv) by rw [List.length_append, List.map_append]; exact g1)
  have HT2 := Lib.hid (HT1.out.grown g2 (fun i hi e => by have := (O7.out.lt i e.symm).1; omega))
  clear g1 g2 g3
  obtain ⟨⟨c0, c1, c2, c3, c4⟩, cd⟩ := CF.out w2 HT2.out
  go_wp2_with fail
  refine (ND.out _).mono ?_
  rintro r w3 ⟨u3, rfl, om, tm⟩
  have tm := Turn.of_below tm
  obtain ⟨A3, cc3, rfl, sl3, -, hc3, ha3⟩ := own_sl om
  have O3 := Lib.hid (tm.own HO2.out (fun _ _ h => h))
  have S3 := Lib.hid sl3
  have AN3 := Lib.hid ha3
  have HT3 := Lib.hid (HT2.out.trans tm (fun _ _ h => h))
  clear om tm sl3 hc3 ha3 c0 c1 c2 c3 c4 cd HO2 HT2
  go_wp2_with (at_builtin; refine stop ?_)
  unfold Stop
  refine wpList_append_any_at (o := ⟨some 17, _, _, _, _, _⟩) rfl _ _ 27 rfl w0.heap.size 5 i0 (.int .u8 0) 1 Try.underlying27 hi hz0 hz1 hz2 rfl _ _ _ rfl O3.out A3 _ cc3 ((d).map bv) rfl AN3.out (by rw [List.length_map, HD.out]) (fun j u hu => (S3.out j u hu).elim fun ad h => ⟨ad, h.1, h.2.2⟩) (bv_one _) (by unfold maxLen; (try simp only [List.length_append]); have := HD.out; omega) (by (try simp only [List.length_append]); have := HD.out; omega) (HT3.out.size) ?_
  intro v4 w4 g1 g2 g3
  have HO4 := Lib.hid (show w4.ownsRow w0.heap.size 5 1 v4 ((numB k ++ numB s) ++ d).length (((numB k ++ numB s) ++ d).map bv) by rw [List.length_append, List.map_append, HD.out]; exact g1)
  have HT4 := Lib.hid (HT3.out.grown g2 (fun i hi e => by have := (O3.out.lt i e.symm).1; omega))
  clear g1 g2 g3
  obtain ⟨⟨c0, c1, c2, c3, c4⟩, cd⟩ := CF.out w4 HT4.out
  go_wp2_with fail
  refine (NA.out _).mono ?_
  rintro r w5 ⟨u5, rfl, om, tm⟩
  obtain ⟨A5, cc5, rfl, sl5, -, hc5, ha5⟩ := own_sl om
  have O5 := Lib.hid (tm.own HO4.out (fun _ _ h => h))
  have S5 := Lib.hid sl5
  have AN5 := Lib.hid ha5
  have HT5 := Lib.hid (HT4.out.trans tm (fun _ _ h => h))
  clear om tm sl5 hc5 ha5 c0 c1 c2 c3 c4 cd HO4 HT4
  go_wp2_with (at_builtin; refine stop ?_)
  unfold Stop
  refine wpList_append_any_at (o := ⟨some 22, _, _, _, _, _⟩) rfl _ _ 27 rfl w0.heap.size 5 i0 (.int .u8 0) 1 Try.underlying27 hi hz0 hz1 hz2 rfl _ _ _ rfl O5.out A5 _ cc5 ((numB a).map bv) rfl AN5.out (by rw [List.length_map]) (fun j u hu => (S5.out j u hu).elim fun ad h => ⟨ad, h.1, h.2.2⟩) (bv_one _) (by unfold maxLen; (try simp only [List.length_append]); have := HD.out; omega) (by (try simp only [List.length_append]); have := HD.out; omega) (HT5.out.size) ?_
  intro v6 w6 g1 g2 g3
  have HO6 := Lib.hid (show w6.ownsRow w0.heap.size 5 1 v6 (((numB k ++ numB s) ++ d) ++ numB a).length ((((numB k ++ numB s) ++ d) ++ numB a).map bv) by rw [List.length_append, List.map_append]; exact g1)
  have HT6 := Lib.hid (HT5.out.grown g2 (fun i hi e => by have := (O5.out.lt i e.symm).1; omega))
  clear g1 g2 g3
  obtain ⟨⟨c0, c1, c2, c3, c4⟩, cd⟩ := CF.out w6 HT6.out
  go_wp2_with fail
  refine (NY.out _).mono ?_
  rintro r w7 ⟨u7, rfl, om, tm⟩
  obtain ⟨A7, cc7, rfl, sl7, -, hc7, ha7⟩ := own_sl om
  have O7 := Lib.hid (tm.own HO6.out (fun _ _ h => h))
  have S7 := Lib.hid sl7
  have AN7 := Lib.hid ha7
  have HT7 := Lib.hid (HT6.out.trans tm (fun _ _ h => h))
  clear om tm sl7 hc7 ha7 c0 c1 c2 c3 c4 cd HO6 HT6
  go_wp2_with (at_builtin; refine stop ?_)
  unfold Stop
  refine wpList_append_any_at (o := ⟨some 28, _, _, _, _, _⟩) rfl _ _ 27 rfl w0.heap.size 5 i0 (.int .u8 0) 1 Try.underlying27 hi hz0 hz1 hz2 rfl _ _ _ rfl O7.out A7 _ cc7 ((numB y).map bv) rfl AN7.out (by rw [List.length_map]) (fun j u hu => (S7.out j u hu).elim fun ad h => ⟨ad, h.1, h.2.2⟩) (bv_one _) (by unfold maxLen; (try simp only [List.length_append]); have := HD.out; omega) (by (try simp only [List.length_append]); have := HD.out; omega) (HT7.out.size) ?_
  intro v8 w8 g1 g2 g3
  have HO8 := Lib.hid (show w8.ownsRow w0.heap.size 5 1 v8 ((((numB k ++ numB s) ++ d) ++ numB a) ++ numB y).length (((((numB k ++ numB s) ++ d) ++ numB a) ++ numB y).map bv) by rw [List.length_append, List.map_append]; exact g1)
  have HT8 := Lib.hid (HT7.out.grown g2 (fun i hi e => by have := (O7.out.lt i e.symm).1; omega))
  clear g1 g2 g3
  obtain ⟨⟨c0, c1, c2, c3, c4⟩, cd⟩ := CF.out w8 HT8.out
  go_wp2_with fail
  refine (NP.out _).mono ?_
  rintro r w9 ⟨u9, rfl, om, tm⟩
  obtain ⟨A9, cc9, rfl, sl9, -, hc9, ha9⟩ := own_sl om
  have O9 := Lib.hid (tm.own HO8.out (fun _ _ h => h))
  have S9 := Lib.hid sl9
  have AN9 := Lib.hid ha9
  have HT9 := Lib.hid (HT8.out.trans tm (fun _ _ h => h))
  clear om tm sl9 hc9 ha9 c0 c1 c2 c3 c4 cd HO8 HT8
  go_wp2_with (at_builtin; refine stop ?_)
  unfold Stop
  refine wpList_append_any_at (o := ⟨some 34, _, _, _, _, _⟩) rfl _ _ 27 rfl w0.heap.size 5 i0 (.int .u8 0) 1 Try.underlying27 hi hz0 hz1 hz2 rfl _ _ _ rfl O9.out A9 _ cc9 ((numB p).map bv) rfl AN9.out (by rw [List.length_map]) (fun j u hu => (S9.out j u hu).elim fun ad h => ⟨ad, h.1, h.2.2⟩) (bv_one _) (by unfold maxLen; (try simp only [List.length_append]); have := HD.out; omega) (by (try simp only [List.length_append]); have := HD.out; omega) (HT9.out.size) ?_
  intro v10 w10 g1 g2 g3
  have HO10 := Lib.hid (show w10.ownsRow w0.heap.size 5 1 v10 (((((numB k ++ numB s) ++ d) ++ numB a) ++ numB y) ++ numB p).length ((((((numB k ++ numB s) ++ d) ++ numB a) ++ numB y) ++ numB p).map bv) by rw [List.length_append, List.map_append]; exact g1)
  have HT10 := Lib.hid (HT9.out.grown g2 (fun i hi e => by have := (O9.out.lt i e.symm).1; omega))
  clear g1 g2 g3
  go_wp2
  go_ret
  refine ⟨_, rfl, ?_, T0.out.trans HT10.out (fun _ _ h => h)⟩
  rw [HF.out]
  have h := own_more HO10.out (base' := w.heap.size) (by omega)
  simp only [List.append_assoc] at h ⊢
  exact h
end Go.Proofs.Ytomflniknnenaaa
