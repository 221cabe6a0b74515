/- 'VoteBytes': plain lemmas; its walk. -/
import Derived.Test.YtmkpoodhhpfgpaaVtY
import Derived.Test.YtmkpoodhhpfgpaaVtO
set_option linter.unusedVariables false
set_option linter.unusedSimpArgs false
namespace Go.Proofs.Ytmkpoodhhpfgpaa
open Go.RowKit
set_option maxRecDepth 100000 in
theorem read_numB (n : Nat) (r : List B8) (hn : n < 18446744073709551616) : numE (numB n ++ r) = 0 ∧ numV (numB n ++ r) = n ∧ numR (numB n ++ r) = r := by
  have h8 := klen_eight hn
  have hk : (BitVec.ofNat 8 (klen n)).toNat = klen n := by rw [BitVec.toNat_ofNat]; exact Nat.mod_eq_of_lt (by omega)
  have ht : (beN (klen n) n ++ r).take (klen n) = beN (klen n) n := List.take_left' (beN_len _ _)
  have hd : (beN (klen n) n ++ r).drop (klen n) = r := List.drop_left' (beN_len _ _)
  rw [numB, List.cons_append]
  simp only [numE, numV, numR, hk, ht, hd]
  refine ⟨?_, valB_numB, trivial⟩
  rw [if_neg (by omega), if_neg (by simp [beN_len]), if_neg]
  by_cases h0 : n = 0
  · subst h0; simp [klen_zero, beN]
  · obtain ⟨x, s, e, hx⟩ := beN_head h0
    rw [e]; simpa using hx
set_option maxRecDepth 100000 in
theorem eNum_numB (m n : Nat) (r : List B8) (hn : n ≤ m) (hm : n < 18446744073709551616) : eNum m (numB n ++ r) = 0 := by
  obtain ⟨h1, h2, h3⟩ := read_numB n r hm
  unfold eNum
  rw [h1, h2, if_neg (by omega), if_neg (by omega)]
theorem rd_num (m n : Nat) (r : List B8) (hn : n ≤ m) (hm : n < 18446744073709551616) : (Rs.mk 0 (numB n ++ r)).num m = ⟨0, r⟩ ∧ (Rs.mk 0 (numB n ++ r)).nv m = n := by
  obtain ⟨h1, h2, h3⟩ := read_numB n r hm
  have e : nE 0 m (numB n ++ r) = 0 := by unfold nE; rw [if_neg (by omega)]; exact eNum_numB m n r hn hm
  constructor
  · show Rs.mk (nE 0 m (numB n ++ r)) (numR (numB n ++ r)) = _
    rw [e, h3]
  · show (if nE 0 m (numB n ++ r) ≠ 0 then 0 else numV (numB n ++ r)) = n
    rw [e, if_neg (by omega), h2]
theorem form_read16 {t f : Int} (h : okB t f = true) : rdE (formB t f) = 0 ∧ rdT (formB t f) = t ∧ rdF (formB t f) = f := by
  obtain ⟨T, F, rfl, hf, hT, hF, hfm⟩ := okB_nat h
  rw [hfm]
  have a := rd_num MX T (numB F) hT (by omega)
  have b := rd_num 7 F [] hF (by omega)
  rw [List.append_nil] at b
  have h1 : (s0 (numB T ++ numB F)).num MX = ⟨0, numB F⟩ := a.1
  have hr : rf (s0 (numB T ++ numB F)) = ⟨0, []⟩ := by unfold rf; rw [h1]; exact b.1
  have he : rdE (numB T ++ numB F) = 0 := by unfold rdE; rw [hr]; rfl
  refine ⟨he, ?_, ?_⟩
  · unfold rdT rT; rw [if_neg (by rw [he]; simp)]; rw [show (s0 (numB T ++ numB F)).nv MX = T from a.2]
  · unfold rdF rF; rw [if_neg (by rw [he]; simp), h1, b.2]; omega
theorem formB_le {t f : Int} (h : okB t f = true) : (formB t f).length ≤ 18 := by
  obtain ⟨T, F, rfl, hf, hT, hF, hfm⟩ := okB_nat h
  have n1 := numB_le (n := T) (by omega)
  have n2 := numB_le (n := F) (by omega)
  rw [hfm, List.length_append]; omega
set_option maxRecDepth 100000 in
set_option maxHeartbeats 8000000 in
theorem voteBytes_any (t f : Int) (A : Option Addr) (c : Nat) (b : List B8) (w : World) (hs : Sl w w.heap.size A (b.map bv)) (hA : A = none → c = 0) (hc : b.length ≤ c) (hm : b.length ≤ maxLen) :
    Calls Try.prog 7 #[blV t f, .slice A b.length c] w fun r w' => r = .returned (.bool true) ∧ Turn (fun _ => False) w w' := by
  have AW := Lib.hid awake16_any
  obtain ⟨w0, hw0⟩ : ∃ z, z = w.alloc (.cells (blC t f) 23) := ⟨_, rfl⟩
  have t0 : Turn (fun _ => False) w w0 := by rw [hw0]; exact (Turn.refl _ _).alloc _
  have g0 : BBx w0 w.heap.size t f := by rw [hw0]; exact BBx.new _ _ _
  have HB := Lib.hid (fun (w' : World) (k : Turn (fun _ => False) w0 w') => (g0.turn k (fun h => h)).cells.1)
  have TW := Lib.hid t0
  have Tw0 := Lib.hid (Turn.refl (fun _ => False) w0)
  by_cases h1 : 40 < b.length
  · have d0 : decide (40 < (b.length : Int)) = true := by rw [decide_eq_true_eq]; omega
    clear t0 g0 h1
    go_enter Try.func7, Try.ntmps7
    go_upto_region 1 with fail
    change Code.wp _ _ _ _ (w.alloc (.cells (blC t f) 23))
    rw [← hw0]
    clear hw0
    go_wp2_with (go_at_call 16; refine stop ?_)
    unfold Stop
    refine (AW.out w0).mono ?_
    rintro r w9 ⟨rfl, t9⟩
    have T9 := Lib.hid (TW.out.trans t9 (fun _ _ h => h))
    clear t9
    go_wp2
    go_ret
    exact ⟨rfl, T9.out⟩
  have d0 : decide (40 < (b.length : Int)) = false := by rw [decide_eq_false_iff_not]; omega
  have TB := fun (w' : World) (k : Turn (fun _ => False) w0 w') => read16_any A c b w' (((t0.trans k (fun _ _ h => h)).sl hs (fun _ _ h => h)).more (t0.trans k (fun _ _ h => h)).size) hA hc (by omega)
  have TR := fun (w' : World) (k : Turn (fun _ => False) w0 w') => rread16_any A c b w' (((t0.trans k (fun _ _ h => h)).sl hs (fun _ _ h => h)).more (t0.trans k (fun _ _ h => h)).size) hA hc (by omega)
  unfold BPost at TB TR
  have QQ := Lib.hid (eql_bl (rdT b) (rdF b) (rdT b) (rdF b))
  rw [decide_eq_true ⟨rfl, rfl⟩] at QQ
  generalize rdT b = rt at *
  generalize rdF b = rf9 at *
  generalize rdE b = re at *
  have R1 := Lib.hid (rright_any t f)
  have R2 := Lib.hid (right_any t f)
  have TB := Lib.hid TB
  have TR := Lib.hid TR
  cases hok : okB t f with
  | false =>
    rw [hok] at R1 R2
    have P := Lib.hid (fun w => put_no t f w hok)
    generalize b.length = bl at *
    clear hs hA hc hm h1 hok t0 g0
    go_enter Try.func7, Try.ntmps7
    go_upto_region 1 with fail
    change Code.wp _ _ _ _ (w.alloc (.cells (blC t f) 23))
    rw [← hw0]
    clear hw0
    generalize w.heap.size = p0 at *
    obtain ⟨c0, c1⟩ := HB.out w0 Tw0.out
    go_wp2_with (go_at_call 19; refine stop ?_)
    unfold Stop
    refine (P.out w0).mono ?_
    rintro r v1 ⟨rfl, u1⟩
    have Tv1 := Lib.hid (Tw0.out.trans u1 (fun _ _ h => h))
    clear u1 c0 c1
    obtain ⟨c0, c1⟩ := HB.out v1 Tv1.out
    go_wp2_with (go_at_call 20; refine stop ?_)
    unfold Stop
    refine (R1.out v1).mono ?_
    rintro r v2 ⟨rfl, u2⟩
    have Tv2 := Lib.hid (Tv1.out.trans u2 (fun _ _ h => h))
    clear u2 c0 c1
    obtain ⟨c0, c1⟩ := HB.out v2 Tv2.out
    go_wp2_with (go_at_call 21; refine stop ?_)
    unfold Stop
    refine (R2.out v2).mono ?_
    rintro r v3 ⟨rfl, u3⟩
    have Tv3 := Lib.hid (Tv2.out.trans u3 (fun _ _ h => h))
    clear u3 c0 c1
    go_wp2_with (go_at_call 22; refine stop ?_)
    unfold Stop
    refine (TB.out v3 Tv3.out).mono ?_
    rintro r v5 ⟨rfl, u5⟩
    have Tv5 := Lib.hid (Tv3.out.trans u5 (fun _ _ h => h))
    clear u5
    go_upto_region 11 with fail
    obtain ⟨v6, hw⟩ : ∃ z, z = v5.alloc (.cells (blC rt rf9) 23) := ⟨_, rfl⟩
    have tt : Turn (fun _ => False) v5 v6 := by rw [hw]; exact (Turn.refl _ _).alloc _
    have hb : BBx v6 v5.heap.size rt rf9 := by rw [hw]; exact BBx.new _ _ _
    have HBp5 := Lib.hid (fun (w' : World) (k : Turn (fun _ => False) v6 w') => (hb.turn k (fun h => h)).cells.1)
    have Tv6 := Lib.hid (Tv5.out.trans tt (fun _ _ h => h))
    change Code.wp _ _ _ _ (v5.alloc (.cells (blC rt rf9) 23))
    rw [← hw]
    clear hw tt hb
    generalize v5.heap.size = p5 at *
    go_wp2_with (go_at_call 25; refine stop ?_)
    unfold Stop
    refine (TR.out v6 Tv6.out).mono ?_
    rintro r v7 ⟨rfl, u7⟩
    have Tv7 := Lib.hid (Tv6.out.trans u7 (fun _ _ h => h))
    have H57 := Lib.hid u7
    clear u7
    go_upto_region 12 with fail
    obtain ⟨v8, hw⟩ : ∃ z, z = v7.alloc (.cells (blC rt rf9) 23) := ⟨_, rfl⟩
    have tt : Turn (fun _ => False) v7 v8 := by rw [hw]; exact (Turn.refl _ _).alloc _
    have hb : BBx v8 v7.heap.size rt rf9 := by rw [hw]; exact BBx.new _ _ _
    have HBp7 := Lib.hid (fun (w' : World) (k : Turn (fun _ => False) v8 w') => (hb.turn k (fun h => h)).cells.1)
    have Tv8 := Lib.hid (Tv7.out.trans tt (fun _ _ h => h))
    have X78 := Lib.hid tt
    change Code.wp _ _ _ _ (v7.alloc (.cells (blC rt rf9) 23))
    rw [← hw]
    clear hw tt hb
    generalize v7.heap.size = p7 at *
    obtain ⟨y0, y1⟩ := HBp5.out v8 (H57.out.trans X78.out (fun _ _ h => h))
    obtain ⟨z0, z1⟩ := HBp7.out v8 (Turn.refl _ _)
    have Q := QQ.out
    go_wp2_with (go_at_call 16; refine stop ?_)
    unfold Stop
    refine (AW.out v8).mono ?_
    rintro r w9 ⟨rfl, t9⟩
    have T9 := Lib.hid (TW.out.trans (Tv8.out.trans t9 (fun _ _ h => h)) (fun _ _ h => h))
    clear t9 y0 y1 z0 z1 Q
    go_wp2
    go_ret
    exact ⟨rfl, T9.out⟩
  | true =>
    rw [hok] at R1 R2
    have P := Lib.hid (fun w => put_yes t f w hok)
    have P2 := Lib.hid (fun w => rput_any t f w hok)
    obtain ⟨e1, e2, e3⟩ := form_read16 hok
    have hfl := formB_le hok
    have TF := fun A1 c1 w' h1 h2 h3 h4 => read16_any A1 c1 (formB t f) w' h1 h2 h3 h4
    unfold BPost at TF
    rw [e1, e2, e3] at TF
    have BY := fun A1 c1 A2 c2 w' (hx : Sl w' w'.heap.size A1 ((formB t f).map bv)) (hy : Sl w' w'.heap.size A2 ((formB t f).map bv)) => rbytes_any A1 A2 c1 c2 _ _ (formB t f) (formB t f) w' hx hy (by unfold maxLen; omega) (by unfold maxLen; omega)
    simp only [decide_true] at BY
    have QF := Lib.hid (eql_bl t f t f)
    rw [decide_eq_true ⟨rfl, rfl⟩] at QF
    generalize formB t f = FM at *
    have TF := Lib.hid TF
    have BY := Lib.hid BY
    have HFL := Lib.hid hfl
    generalize FM.length = fl at *
    generalize b.length = bl at *
    clear hs hA hc hm h1 hok t0 g0 e1 e2 e3 hfl
    go_enter Try.func7, Try.ntmps7
    go_upto_region 1 with fail
    change Code.wp _ _ _ _ (w.alloc (.cells (blC t f) 23))
    rw [← hw0]
    clear hw0
    generalize w.heap.size = p0 at *
    obtain ⟨c0, c1⟩ := HB.out w0 Tw0.out
    go_wp2_with (go_at_call 19; refine stop ?_)
    unfold Stop
    refine (P.out w0).mono ?_
    rintro r v1 ⟨u, rfl, own1, u1⟩
    obtain ⟨A1, cc1, rfl, sl1, -, hcc1, hA1⟩ := own_sl own1
    have Tv1 := Lib.hid (Tw0.out.trans u1 (fun _ _ h => h))
    have S1 := Lib.hid (And.intro sl1 (And.intro hA1 hcc1))
    clear u1 c0 c1 own1 sl1 hcc1 hA1
    obtain ⟨c0, c1⟩ := HB.out v1 Tv1.out
    go_wp2_with (go_at_call 20; refine stop ?_)
    unfold Stop
    refine (R1.out v1).mono ?_
    rintro r v2 ⟨rfl, u2⟩
    have Tv2 := Lib.hid (Tv1.out.trans u2 (fun _ _ h => h))
    have X2 := Lib.hid u2
    clear u2 c0 c1
    obtain ⟨c0, c1⟩ := HB.out v2 Tv2.out
    go_wp2_with (go_at_call 21; refine stop ?_)
    unfold Stop
    refine (R2.out v2).mono ?_
    rintro r v3 ⟨rfl, u3⟩
    have Tv3 := Lib.hid (Tv2.out.trans u3 (fun _ _ h => h))
    have X3 := Lib.hid (X2.out.trans u3 (fun _ _ h => h))
    clear u3 c0 c1
    go_wp2_with (go_at_call 22; refine stop ?_)
    unfold Stop
    refine (TF.out A1 cc1 v3 ((X3.out.sl S1.out.1 (fun _ _ h => h)).more X3.out.size) S1.out.2.1 S1.out.2.2 (by have := HFL.out; omega)).mono ?_
    rintro r v4 ⟨rfl, u4⟩
    have Tv4 := Lib.hid (Tv3.out.trans u4 (fun _ _ h => h))
    have X4 := Lib.hid (X3.out.trans u4 (fun _ _ h => h))
    clear u4
    go_upto_region 8 with fail
    obtain ⟨va, hw⟩ : ∃ z, z = v4.alloc (.cells (blC t f) 23) := ⟨_, rfl⟩
    have tt : Turn (fun _ => False) v4 va := by rw [hw]; exact (Turn.refl _ _).alloc _
    have hb : BBx va v4.heap.size t f := by rw [hw]; exact BBx.new _ _ _
    have HBp4 := Lib.hid (fun (w' : World) (k : Turn (fun _ => False) va w') => (hb.turn k (fun h => h)).cells.1)
    have Xa := Lib.hid (X4.out.trans tt (fun _ _ h => h))
    have Tva := Lib.hid (Tv4.out.trans tt (fun _ _ h => h))
    change Code.wp _ _ _ _ (v4.alloc (.cells (blC t f) 23))
    rw [← hw]
    clear hw tt hb
    generalize v4.heap.size = p4 at *
    obtain ⟨c0, c1⟩ := HB.out va Tva.out
    obtain ⟨d1, d2⟩ := HBp4.out va (Turn.refl _ _)
    have Q := QF.out
    go_wp2_with (go_at_call 24; refine stop ?_)
    unfold Stop
    refine (P2.out va).mono ?_
    rintro r vb ⟨u, rfl, own2, ub⟩
    obtain ⟨A2, cc2, rfl, sl2, -, -, -⟩ := own_sl own2
    have Tvb := Lib.hid (Tva.out.trans ub (fun _ _ h => h))
    have Xb := Lib.hid (Xa.out.trans ub (fun _ _ h => h))
    have S2 := Lib.hid sl2
    clear ub own2 sl2 c0 c1 d1 d2
    go_wp2_with (go_at_call 23; refine stop ?_)
    unfold Stop
    refine (BY.out A1 cc1 A2 cc2 vb ((Xb.out.sl S1.out.1 (fun _ _ h => h)).more Xb.out.size) S2.out).mono ?_
    rintro r vc ⟨rfl, nc, hvc⟩
    have Tvc := Lib.hid (show Turn (fun _ => False) w0 vc from by rw [hvc]; exact Tvb.out.drewN nc)
    clear hvc Q
    go_wp2_with (go_at_call 22; refine stop ?_)
    unfold Stop
    refine (TB.out vc Tvc.out).mono ?_
    rintro r v5 ⟨rfl, u5⟩
    have Tv5 := Lib.hid (Tvc.out.trans u5 (fun _ _ h => h))
    clear u5
    go_upto_region 11 with fail
    obtain ⟨v6, hw⟩ : ∃ z, z = v5.alloc (.cells (blC rt rf9) 23) := ⟨_, rfl⟩
    have tt : Turn (fun _ => False) v5 v6 := by rw [hw]; exact (Turn.refl _ _).alloc _
    have hb : BBx v6 v5.heap.size rt rf9 := by rw [hw]; exact BBx.new _ _ _
    have HBp5 := Lib.hid (fun (w' : World) (k : Turn (fun _ => False) v6 w') => (hb.turn k (fun h => h)).cells.1)
    have Tv6 := Lib.hid (Tv5.out.trans tt (fun _ _ h => h))
    change Code.wp _ _ _ _ (v5.alloc (.cells (blC rt rf9) 23))
    rw [← hw]
    clear hw tt hb
    generalize v5.heap.size = p5 at *
    go_wp2_with (go_at_call 25; refine stop ?_)
    unfold Stop
    refine (TR.out v6 Tv6.out).mono ?_
    rintro r v7 ⟨rfl, u7⟩
    have Tv7 := Lib.hid (Tv6.out.trans u7 (fun _ _ h => h))
    have H57 := Lib.hid u7
    clear u7
    go_upto_region 12 with fail
    obtain ⟨v8, hw⟩ : ∃ z, z = v7.alloc (.cells (blC rt rf9) 23) := ⟨_, rfl⟩
    have tt : Turn (fun _ => False) v7 v8 := by rw [hw]; exact (Turn.refl _ _).alloc _
    have hb : BBx v8 v7.heap.size rt rf9 := by rw [hw]; exact BBx.new _ _ _
    have HBp7 := Lib.hid (fun (w' : World) (k : Turn (fun _ => False) v8 w') => (hb.turn k (fun h => h)).cells.1)
    have Tv8 := Lib.hid (Tv7.out.trans tt (fun _ _ h => h))
    have X78 := Lib.hid tt
    change Code.wp _ _ _ _ (v7.alloc (.cells (blC rt rf9) 23))
    rw [← hw]
    clear hw tt hb
    generalize v7.heap.size = p7 at *
    obtain ⟨y0, y1⟩ := HBp5.out v8 (H57.out.trans X78.out (fun _ _ h => h))
    obtain ⟨z0, z1⟩ := HBp7.out v8 (Turn.refl _ _)
    have Q := QQ.out
    go_wp2_with (go_at_call 16; refine stop ?_)
    unfold Stop
    refine (AW.out v8).mono ?_
    rintro r w9 ⟨rfl, t9⟩
    have T9 := Lib.hid (TW.out.trans (Tv8.out.trans t9 (fun _ _ h => h)) (fun _ _ h => h))
    clear t9 y0 y1 z0 z1 Q
    go_wp2
    go_ret
    exact ⟨rfl, T9.out⟩
theorem voteBytes_walk (t f : Int) (A : Option Addr) (c : Nat) (b : List B8) (w : World) (hs : Sl w w.heap.size A (b.map bv)) (hA : A = none → c = 0) (hc : b.length ≤ c) (hm : b.length ≤ maxLen) :
    Calls Try.prog 7 #[blV t f, .slice A b.length c] w fun r w' => r = .returned (.bool true) ∧ Below w.heap.size w w' :=
  (voteBytes_any t f A c b w hs hA hc hm).mono fun _ _ ⟨h1, h2⟩ => ⟨h1, below_of h2⟩
end Go.Proofs.Ytmkpoodhhpfgpaa
