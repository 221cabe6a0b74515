/- Merged: The document's Form. -/
import Derived.Test.YtajdcekkmikbcaaDoorM26
import Derived.Test.YtajdcekkmikbcaaDoorM27
namespace Go.Proofs.YtajdcekkmikbcaaDoor
section
set_option linter.unusedVariables false
open Go.RowKit
theorem turn_stp' {w w' : World} (t : Turn (fun _ => False) w w') : Below w.heap.size w w' := t.below (fun _ _ h => h.elim) (Nat.le_refl _)
theorem Bts.below' {w0 w : World} {A : Option Addr} {xs : List B8} (h : Bts w0 A xs) (hb : Below w0.heap.size w0 w) : Bts w A xs := h.below hb
set_option maxRecDepth 100000 in
theorem wpList_app {w : World} {ops : Array Oper} {rest : List Oper} {o : Oper} {a : Act} {Q : Exit → Act → World → Prop} (hgd : o.guard = none) (s x : Operand)
    (ho : o.op = .call { callee := .builtin .append, args := #[s, x], argTypes := #[36, 36] }) (B : Nat) (v : Value) (xs ys : List B8) (n m : Nat) (hn : xs.length = n) (hm : ys.length = m) (hs : a.eval s = v)
    (hown : w.ownsRow B 5 1 v n (xs.map bv)) (A : Option Addr) (c : Nat) (hx : a.eval x = .slice A m c) (hA : A = none → c = 0) (hb : Bts w A ys) (h63 : n + m ≤ 1099511627776) (hbase : B ≤ w.heap.size)
    (h : ∀ A' c' w', (A' = none → c' = 0) → n + m ≤ c' → w'.ownsRow B 5 1 (.slice A' (n + m) c') (n + m) ((xs ++ ys).map bv) → w.grownBy w' v.ownBlock → wpList Tryd.prog ops Q rest (a.put o.dst (.slice A' (n + m) c')) w') :
    wpList Tryd.prog ops Q (o :: rest) a w := by
  obtain ⟨i0, hi, hz0, hz1, hz2⟩ := info_parts info_u8
  refine wpList_append_any hgd s x 36 ho B 5 i0 (.int .u8 0) 1 Tryd.underlying36 hi hz0 hz1 hz2 rfl v n (xs.map bv) hs hown A m c (ys.map bv) hx hA (by rw [List.length_map]; exact hm) hb (bv_one _) (by unfold maxLen; omega) (by omega) hbase ?_
  intro v' w' h1 h2
  rw [← List.map_append] at h1
  obtain ⟨A', c', rfl, -, -, hc, hA'⟩ := own_sl h1
  exact h A' c' w' hA' hc h1 h2
set_option maxRecDepth 100000 in
theorem grown_below {B : Nat} {w0 w w' : World} {v : Value} {n : Nat} {xs : List Value} (hb : Below B w0 w) (hg : w.grownBy w' v.ownBlock) (ho : w.ownsRow B 5 1 v n xs) (hB : B ≤ w.heap.size) : Below B w0 w' := hb.grown hg hB (fun k hk => (ho.lt k hk).1)
def formE13 (t n : Int) (b : List B8) : Nat := if t < 0 ∨ (mostS : Int) < t ∨ n < 0 ∨ (mostS : Int) < n then 5 else if 65524 < (fldS t.toNat n.toNat b).length then 4 else 0
def formV13 (t n : Int) (b : List B8) : List B8 := if formE13 t n b = 0 then formS t.toNat n.toNat b else []
set_option maxRecDepth 100000 in
theorem numB_small {n : Nat} (h : n ≤ 1099511627776) : (numB n).length ≤ 9 := numB_le (by omega)
set_option maxRecDepth 100000 in
set_option maxHeartbeats 4000000 in
theorem rform_any (t n : Int) (A : Option Addr) (c : Nat) (b : List B8) (w : World) (hb : Bts w A b) (hA : A = none → c = 0) (hlen : b.length ≤ 900000) :
    Calls Tryd.prog 54 #[.int .i64 t, .int .i64 n, .slice A b.length c] w fun r w' => ∃ A' c', r = .returned (.tuple #[.slice A' (formV13 t n b).length c', .int .i64 (formE13 t n b : Int)]) ∧ Sl w' w'.heap.size A' ((formV13 t n b).map bv) ∧ (A' = none → c' = 0) ∧ (formV13 t n b).length ≤ c' ∧ Below w.heap.size w w' := by
  have err : ∀ (x : Nat), formE13 t n b = x → x ≠ 0 → Calls Tryd.prog 54 #[.int .i64 t, .int .i64 n, .slice A b.length c] w (fun r w' => r = .returned (.tuple #[.slice none 0 0, .int .i64 (x : Int)]) ∧ Below w.heap.size w w') →
      Calls Tryd.prog 54 #[.int .i64 t, .int .i64 n, .slice A b.length c] w fun r w' => ∃ A' c', r = .returned (.tuple #[.slice A' (formV13 t n b).length c', .int .i64 (formE13 t n b : Int)]) ∧ Sl w' w'.heap.size A' ((formV13 t n b).map bv) ∧ (A' = none → c' = 0) ∧ (formV13 t n b).length ≤ c' ∧ Below w.heap.size w w' := by
    intro x hx h0 hc
    refine hc.mono ?_
    rintro r w' ⟨rfl, hw⟩
    have e : formV13 t n b = [] := by unfold formV13; rw [if_neg (by omega)]
    rw [e, hx]
    exact ⟨none, 0, rfl, Sl.none _ _ _, fun _ => rfl, by simp, hw⟩
  have out5 : (t < 0 ∨ (mostS : Int) < t ∨ n < 0 ∨ (mostS : Int) < n) → formE13 t n b = 5 := fun h => by unfold formE13; rw [if_pos h]
  unfold mostS at out5
  by_cases h1 : t < 0
  · refine err 5 (out5 (.inl h1)) (by decide) ?_
    clear err out5 hb
    go_enter Tryd.func54, Tryd.ntmps54
    go_wp2
    refine bodyPost_ret (results_tmp2 rfl _ _ _) rfl ?_
    exact ⟨rfl, Below.refl _ _⟩
  by_cases h2 : 1099511627776 < t
  · refine err 5 (out5 (.inr (.inl h2))) (by decide) ?_
    clear err out5 hb
    go_enter Tryd.func54, Tryd.ntmps54
    go_wp2
    refine bodyPost_ret (results_tmp2 rfl _ _ _) rfl ?_
    exact ⟨rfl, Below.refl _ _⟩
  by_cases h3 : n < 0
  · refine err 5 (out5 (.inr (.inr (.inl h3)))) (by decide) ?_
    clear err out5 hb
    go_enter Tryd.func54, Tryd.ntmps54
    go_wp2
    refine bodyPost_ret (results_tmp2 rfl _ _ _) rfl ?_
    exact ⟨rfl, Below.refl _ _⟩
  by_cases h4 : 1099511627776 < n
  · refine err 5 (out5 (.inr (.inr (.inr h4)))) (by decide) ?_
    clear err out5 hb
    go_enter Tryd.func54, Tryd.ntmps54
    go_wp2
    refine bodyPost_ret (results_tmp2 rfl _ _ _) rfl ?_
    exact ⟨rfl, Below.refl _ _⟩
  clear out5
  obtain ⟨T, rfl⟩ : ∃ T : Nat, t = (T : Int) := ⟨t.toNat, by omega⟩
  obtain ⟨N, rfl⟩ : ∃ N : Nat, n = (N : Int) := ⟨n.toNat, by omega⟩
  have hT : T ≤ 1099511627776 := by omega
  have hN : N ≤ 1099511627776 := by omega
  have d1 : decide ((T : Int) < 0) = false := decide_eq_false h1
  have d2 : decide ((1099511627776 : Int) < (T : Int)) = false := decide_eq_false h2
  have d3 : decide ((N : Int) < 0) = false := decide_eq_false h3
  have d4 : decide ((1099511627776 : Int) < (N : Int)) = false := decide_eq_false h4
  have hE : formE13 (T : Int) (N : Int) b = if 65524 < (fldS T N b).length then 4 else 0 := by
    unfold formE13
    rw [if_neg (by unfold mostS; omega)]; rfl
  have lT := numB_small hT
  have lN := numB_small hN
  have lB := numB_small (n := b.length) (by omega)
  have hfl : (fldS T N b).length = (numB T).length + ((numB N).length + ((numB b.length).length + b.length)) := by simp [fldS]
  have HB := Lib.hid hb
  have HA := Lib.hid hA
  have C1 := Lib.hid (fun w => rnum_any T w (by omega))
  have C2 := Lib.hid (fun w => rnum_any N w (by omega))
  have C3 := Lib.hid (fun w => rnum_any b.length w (by omega))
  have HFL := Lib.hid hfl
  have HE := Lib.hid hE
  clear hb hA h1 h2 h3 h4 hfl hE err
  obtain ⟨E, hEx⟩ : ∃ E, E = formE13 (T : Int) (N : Int) b := ⟨_, rfl⟩
  obtain ⟨V, hVx⟩ : ∃ V, V = formV13 (T : Int) (N : Int) b := ⟨_, rfl⟩
  rw [← hEx, ← hVx]
  have HEX := Lib.hid hEx
  have HVX := Lib.hid hVx
  clear hEx hVx
  obtain ⟨LT, hLT⟩ : ∃ L, L = (numB T).length := ⟨_, rfl⟩
  obtain ⟨LN, hLN⟩ : ∃ L, L = (numB N).length := ⟨_, rfl⟩
  obtain ⟨LB, hLB⟩ : ∃ L, L = (numB b.length).length := ⟨_, rfl⟩
  obtain ⟨lb, hlb⟩ : ∃ L, L = b.length := ⟨_, rfl⟩
  rw [← hLT] at C1 HFL lT
  rw [← hLN] at C2 HFL lN
  rw [← hlb] at C3 hlen hLB HFL lB ⊢
  rw [← hLB] at C3 HFL lB
  have ET := Lib.hid hLT
  have EN := Lib.hid hLN
  have EB := Lib.hid hLB
  have Eb := Lib.hid hlb
  clear hLT hLN hLB hlb
  go_enter Tryd.func54, Tryd.ntmps54
  go_wp2_with (go_at_call 76; refine stop ?_)
  unfold Stop
  refine (C1.out w).mono ?_
  rintro r w1 ⟨v1, rfl, ho1, t1⟩
  obtain ⟨A1, c1, rfl, -, -, k1, a1⟩ := own_sl ho1
  have O1 := Lib.hid ho1
  have B1 := Lib.hid (turn_stp' t1)
  have S1 := t1.size
  clear ho1 t1
  go_wp2_with (go_at_call 76; refine stop ?_)
  unfold Stop
  refine (C2.out w1).mono ?_
  rintro r w2 ⟨v2, rfl, ho2, t2⟩
  obtain ⟨A2, c2, rfl, s2, -, k2, a2⟩ := own_sl ho2
  have hO1 := own_turn t2 O1.out (fun _ _ h => h)
  have hB2 := B1.out.trans ((turn_stp' t2).mono B1.out.size)
  have S2 := t2.size
  have O2 := Lib.hid hO1
  have P2 := Lib.hid (Bts.of_sl s2)
  have B2 := Lib.hid hB2
  clear ho2 t2 hO1 hB2 s2 O1 B1
  go_wp2_with (at_builtin; refine stop ?_)
  unfold Stop
  refine wpList_app (o := ⟨some 31, _, _, _, _, _⟩) rfl _ _ rfl w.heap.size _ (numB T) (numB N) LT LN ET.out.symm EN.out.symm rfl O2.out A2 c2 rfl a2 P2.out (by omega) (by omega) ?_
  intro A3 c3 w3 a3 k3 ho3 hg3
  have hB3 := grown_below B2.out hg3 O2.out (by omega)
  have O3 := Lib.hid ho3
  have B3 := Lib.hid hB3
  have S3 := hg3.size
  clear ho3 hg3 hB3 O2 P2 B2
  go_wp2_with (go_at_call 76; refine stop ?_)
  unfold Stop
  refine (C3.out w3).mono ?_
  rintro r w4 ⟨v4, rfl, ho4, t4⟩
  obtain ⟨A4, c4, rfl, s4, -, k4, a4⟩ := own_sl ho4
  have hO4 := own_turn t4 O3.out (fun _ _ h => h)
  have hB4 := B3.out.trans ((turn_stp' t4).mono B3.out.size)
  have O4 := Lib.hid hO4
  have P4 := Lib.hid (Bts.of_sl s4)
  have B4 := Lib.hid hB4
  have S4 := t4.size
  clear ho4 t4 hO4 hB4 s4 O3 B3
  go_wp2_with (at_builtin; refine stop ?_)
  unfold Stop
  refine wpList_app (o := ⟨some 37, _, _, _, _, _⟩) rfl _ _ rfl w.heap.size _ _ (numB lb) (LT + LN) LB (by rw [List.length_append, ET.out, EN.out]) EB.out.symm rfl O4.out A4 c4 rfl a4 P4.out (by omega) (by omega) ?_
  intro A5 c5 w5 a5 k5 ho5 hg5
  have hB5 := grown_below B4.out hg5 O4.out (by omega)
  have O5 := Lib.hid ho5
  have B5 := Lib.hid hB5
  have S5 := hg5.size
  have P5 := Lib.hid (HB.out.below' hB5)
  clear ho5 hg5 hB5 O4 P4 B4
  go_wp2_with (at_builtin; refine stop ?_)
  unfold Stop
  refine wpList_app (o := ⟨some 39, _, _, _, _, _⟩) rfl _ _ rfl w.heap.size _ _ b (LT + LN + LB) lb (by rw [List.length_append, List.length_append, ET.out, EN.out, EB.out]) Eb.out.symm rfl O5.out A c rfl HA.out P5.out (by omega) (by omega) ?_
  intro A6 c6 w6 a6 k6 ho6 hg6
  have hB6 := grown_below B5.out hg6 O5.out (by omega)
  have S6 := hg6.size
  obtain ⟨LF, hLF⟩ : ∃ L, L = LT + LN + LB + lb := ⟨_, rfl⟩
  rw [← hLF] at ho6 k6 ⊢
  have hFl : (fldS T N b).length = LF := by rw [HFL.out, hLF]; omega
  have hF6 : numB T ++ numB N ++ numB lb ++ b = fldS T N b := by rw [Eb.out]; simp [fldS]
  rw [hF6] at ho6
  have hE := HE.out
  rw [hFl] at hE
  have hlF : LF ≤ 900027 := by omega
  have O6 := Lib.hid ho6
  have B6 := Lib.hid hB6
  obtain ⟨F, hF⟩ : ∃ F, F = fldS T N b := ⟨_, rfl⟩
  have hV : formV13 (T : Int) (N : Int) b = if 65524 < LF then [] else laidS F := by
    unfold formV13 formS
    rw [hE, hF]
    by_cases h : 65524 < LF
    · rw [if_pos h, if_pos h]; rfl
    · rw [if_neg h, if_neg h]; rfl
  rw [← hF] at O6 hFl
  have HE := Lib.hid hE
  have HV := Lib.hid hV
  have HFl := Lib.hid hFl
  clear hE hV hF hF6 hg6 hLF hB6 ho6 HFL ET EN EB O5 B5 P5 C1 C2 C3 hFl
  by_cases hLF : 65524 < LF
  · have he := HE.out
    have hv := HV.out
    rw [if_pos hLF, ← HEX.out] at he
    rw [if_pos hLF, ← HVX.out] at hv
    have HE4 := Lib.hid he
    have HV4 := Lib.hid hv
    have dd : decide ((65524 : Int) < (LF : Int)) = true := decide_eq_true (by omega)
    clear he hv HE HV HEX HVX
    go_wp2
    refine bodyPost_ret (results_tmp2 rfl _ _ _) rfl ?_
    rw [HE4.out, HV4.out]
    exact ⟨none, 0, rfl, Sl.none _ _ _, fun _ => rfl, by simp, B6.out⟩
  have he := HE.out
  have hv := HV.out
  rw [if_neg hLF, ← HEX.out] at he
  rw [if_neg hLF, ← HVX.out] at hv
  have HE4 := Lib.hid he
  have HV4 := Lib.hid hv
  have dd : decide ((65524 : Int) < (LF : Int)) = false := decide_eq_false (by omega)
  clear he hv HE HV HEX HVX
  have hL := long_any A6 c6 F w6 (own_bts' O6.out) a6 (by rw [HFl.out]; omega)
  rw [HFl.out] at hL
  have L := Lib.hid hL
  have SM := Lib.hid (fun (w : World) (h : Bts w A6 F) => rsum13_any A6 c6 F w h a6 (by rw [HFl.out]; omega))
  rw [HFl.out] at SM
  clear hL
  go_wp2_with (go_at_call 77; refine stop ?_)
  unfold Stop
  refine L.out.mono ?_
  rintro e w7 ⟨v7, rfl, ho7, hb7⟩
  obtain ⟨A7, c7, rfl, s7, -, k7, a7⟩ := own_sl ho7
  have O7 := Lib.hid (own_below O6.out hb7)
  have B7 := Lib.hid (B6.out.trans (hb7.mono B6.out.size))
  have P7 := Lib.hid (Bts.of_sl s7)
  have S7 := hb7.size
  have SH : ∀ w, (Instr.slice 36 (.slice A7 (4 + LF) c7) none (some (.int .i64 4)) none).run Tryd.prog w = .ok (.slice A7 4 c7) w := fun w => slice_hi A7 (4 + LF) c7 4 (by omega) k7 w
  clear ho7 hb7 s7 O6 B6 L
  go_upto_region 8 with fail
  go_step
  refine wpList_val rfl (.slice (some ⟨w7.heap.size, 0, none⟩) 0 0) (w7.alloc (.cells #[] 5)) (by kernel_rfl) ?_
  have ho8 := own_new w7 w7.heap.size 5 [] 0 rfl (Nat.le_refl _) (by unfold maxLen; omega)
  obtain ⟨w8, hw8⟩ : ∃ w8, w8 = w7.alloc (.cells #[] 5) := ⟨_, rfl⟩
  rw [← hw8]
  have hb8 : Below w7.heap.size w7 w8 := by rw [hw8]; exact (Below.refl _ _).alloc (Nat.le_refl _) _
  have G8 := Lib.hid hb8
  have P8 := Lib.hid (P7.out.below hb8)
  have X8 := Lib.hid (show w8.ownsRow w7.heap.size 5 1 (.slice (some ⟨w7.heap.size, 0, none⟩) 0 0) 0 (([] : List B8).map bv) by rw [hw8]; exact ho8)
  have S8 := hb8.size
  clear ho8 hw8 hb8 P7
  generalize Value.slice (some ⟨w7.heap.size, 0, none⟩) 0 0 = v8 at *
  go_wp2_with (at_builtin; refine stop ?_)
  unfold Stop
  obtain ⟨W4, hW4⟩ : ∃ W, W = wb (BitVec.ofNat 32 LF) := ⟨_, rfl⟩
  have hW4l : W4.length = 4 := by rw [hW4]; rfl
  have hLW : longB F = W4 ++ F := by rw [hW4, longB, HFl.out]
  have P8' := Lib.hid (show Bts w8 A7 W4 by
    intro j u hu
    refine P8.out j u ?_
    rw [hLW, List.map_append]
    obtain ⟨hj, -⟩ := List.getElem?_eq_some_iff.mp hu
    exact (List.getElem?_append_left hj).trans hu)
  have HW4 := Lib.hid hW4
  clear hW4 hLW P8
  refine wpList_app (o := ⟨some 48, _, _, _, _, _⟩) rfl _ _ rfl w7.heap.size _ [] W4 0 4 rfl hW4l rfl X8.out A7 c7 rfl a7 P8'.out (by omega) (by omega) ?_
  rw [List.nil_append, Nat.zero_add]
  intro A9 c9 w9 a9 k9 ho9 hg9
  have hG9 := grown_below G8.out hg9 X8.out (by omega)
  have X9 := Lib.hid ho9
  have G9 := Lib.hid hG9
  have S9 := hg9.size
  have P9 := Lib.hid (own_bts' (own_below O7.out hG9))
  clear ho9 hg9 hG9 X8 P8' G8
  go_wp2_with (go_at_call 68; refine stop ?_)
  unfold Stop
  refine (SM.out w9 P9.out).mono ?_
  rintro e w10 ⟨v10, rfl, ho10, hb10⟩
  obtain ⟨A10, c10, rfl, s10, -, k10, a10⟩ := own_sl ho10
  have X10 := Lib.hid (own_below X9.out hb10)
  have G10 := Lib.hid (G9.out.trans (hb10.mono G9.out.size))
  have P10 := Lib.hid (Bts.of_sl s10)
  have S10 := hb10.size
  clear ho10 hb10 s10 X9 G9 P9 SM
  go_wp2_with (at_builtin; refine stop ?_)
  unfold Stop
  refine wpList_app (o := ⟨some 51, _, _, _, _, _⟩) rfl _ _ rfl w7.heap.size _ W4 (sumS F) 4 8 hW4l (sumS_len F) rfl X10.out A10 c10 rfl a10 P10.out (by omega) (by omega) ?_
  intro A11 c11 w11 a11 k11 ho11 hg11
  rw [show 4 + 8 = 12 from rfl] at *
  have hG11 := grown_below G10.out hg11 X10.out (by omega)
  have X11 := Lib.hid ho11
  have G11 := Lib.hid hG11
  have S11 := hg11.size
  have P11 := Lib.hid (own_bts' (own_below O7.out hG11))
  clear ho11 hg11 hG11 X10 G10 P10
  go_wp2_with (at_builtin; refine stop ?_)
  unfold Stop
  refine wpList_app (o := ⟨some 54, _, _, _, _, _⟩) rfl _ _ rfl w7.heap.size _ (W4 ++ sumS F) F 12 LF (by rw [List.length_append, hW4l, sumS_len]) HFl.out rfl X11.out A6 c6 rfl a6 P11.out (by omega) (by omega) ?_
  intro A12 c12 w12 a12 k12 ho12 hg12
  have hG12 := grown_below G11.out hg12 X11.out (by omega)
  have HH := Lib.hid (show W4 ++ sumS F ++ F = headS F ++ F by rw [HW4.out, headS, HFl.out])
  rw [HH.out] at ho12
  obtain ⟨M, hM⟩ : ∃ M, M = 12 + LF := ⟨_, rfl⟩
  rw [← hM] at ho12 k12 ⊢
  have hHM : (headS F ++ F).length = M := by rw [List.length_append, headS_len, HFl.out, hM]
  have hVM : V = headS F ++ F ++ zeros (secPad M) := by rw [HV4.out, laidS, HFl.out, hM, List.append_assoc]
  have hM6 : M ≤ 65536 := by omega
  have X12 := Lib.hid ho12
  have G12 := Lib.hid hG12
  have S12 := hg12.size
  have HVM := Lib.hid hVM
  have HHM := Lib.hid hHM
  clear ho12 hg12 hG12 X11 G11 P11 hM hVM hHM HH HW4 HV4 HFl O7
  go_wp2
  go_loopw [10] (fun u wr => ∃ (j : Nat) (A : Option Addr) (c : Nat), j ≤ secPad M ∧ u = .slice A (M + j) c ∧ wr.ownsRow w7.heap.size 5 1 u (M + j) ((headS F ++ F ++ zeros j).map bv) ∧ Below w7.heap.size w7 wr) (fun u _ => secPad M + M - (match u with | .slice _ n _ => n | _ => 0))
  case atStart => exact ⟨0, A12, c12, Nat.zero_le _, rfl, by rw [show zeros 0 = [] from rfl, List.append_nil]; exact X12.out, G12.out⟩
  case round =>
    obtain ⟨j, Au, cu, hj, rfl, ho, hb⟩ := hrel
    have hs64 := secPad_lt M
    have hsd := secPad_div M
    have hp : secPad M = (64 - M % 64) % 64 := rfl
    have HO := Lib.hid ho
    have HB := Lib.hid hb
    have hsz := hb.size
    clear ho hb
    by_cases hl : j < secPad M
    · have hne : (((M : Int) + (j : Int)) % 64 != 0) = true := by
        rw [bne_iff_ne]; omega
      have h63 : M + j + 1 ≤ 1099511627776 := by omega
      clear hs64 hsd hp
      go_upto_region 11 with fail
      go_step
      iterate 6 go_step
      have hz1 : Bts (wr.alloc (.cells #[.int .u8 0] 5)) (some ⟨wr.heap.size, 0, none⟩) [(0 : B8)] := fun j' u hu => ⟨_, rfl, World.news_of_block (heap_alloc_new wr (.cells #[.int .u8 0] 5)) j' u hu⟩
      refine wpList_app (o := ⟨some 61, _, _, _, _, _⟩) rfl _ _ rfl w7.heap.size _ (headS F ++ F ++ zeros j) [0] (M + j) 1 (by rw [List.length_append, HHM.out, zeros_len]) rfl rfl (HO.out.alloc _) (some ⟨wr.heap.size, 0, none⟩) 1 rfl (fun h => by cases h) hz1 h63 (by simp; omega) ?_
      intro A13 c13 w13 a13 k13 ho13 hg13
      have hz : headS F ++ F ++ zeros j ++ [0] = headS F ++ F ++ zeros (j + 1) := by
        rw [List.append_assoc, zeros, zeros, List.replicate_succ']
      rw [hz] at ho13
      have hB13 := (HB.out.alloc hsz (.cells #[.int .u8 0] 5)).grown hg13 (by simp; omega) (fun i hi => (HO.out.lt i hi).1)
      have X13 := Lib.hid ho13
      have G13 := Lib.hid hB13
      clear ho13 hg13 hB13 hz hz1 HO HB X12 G12
      go_wp2
      go_roundw
      case rel => exact ⟨j + 1, A13, c13, by omega, rfl, X13.out, G13.out⟩
      case measure => simp; omega
    · obtain rfl : j = secPad M := by omega
      have hne : (((M : Int) + (secPad M : Int)) % 64 != 0) = false := by
        rw [bne_eq_false_iff_eq]; omega
      have hvl : V.length = M + secPad M := by rw [HVM.out, List.length_append, HHM.out, zeros_len]
      have HVL := Lib.hid hvl
      have HSZ := Lib.hid (show w.heap.size ≤ w7.heap.size by omega)
      generalize secPad M = p at *
      clear hs64 hsd hp hvl X12 G12
      go_wp2
      refine bodyPost_ret (results_tmp2 rfl _ _ _) rfl ?_
      refine ⟨Au, cu, by rw [HE4.out, HVL.out]; rfl, ?_, ?_, ?_, ?_⟩
      · rw [HVM.out]
        obtain ⟨A', c', e, hs, -, -, -⟩ := own_sl HO.out
        injection e with e1 e2 e3
        subst e1
        exact hs
      · obtain ⟨A', c', e, hs, -, -, ha⟩ := own_sl HO.out
        injection e with e1 e2 e3
        subst e1 e3
        exact ha
      · obtain ⟨A', c', e, hs, -, hc, ha⟩ := own_sl HO.out
        injection e with e1 e2 e3
        subst e3
        rw [HVL.out]; exact hc
      · exact B7.out.trans (HB.out.mono HSZ.out)
end
end Go.Proofs.YtajdcekkmikbcaaDoor
