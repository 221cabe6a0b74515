/- Merged: The landed Form: its contract. The landed Form: its contract. Reading a record's fields: a reader that holds two variables of its caller. -/
import Derived.Test.YtajdcekkmikbcaaDoorM33
import Derived.Test.YtajdcekkmikbcaaDoorM34
import Derived.StillTailTactics
namespace Go.Proofs.YtajdcekkmikbcaaDoor
section
set_option linter.unusedVariables false
set_option linter.unusedSimpArgs false
open Go.RowKit
set_option maxRecDepth 100000
theorem pen_low {w : World} {p B i : Nat} {v : Value} {xs : List B8} (h : PenAt w p B v xs) (hi : i < p) : ¬ (i = p ∨ some i = v.ownBlock) := by
  rintro (e | e)
  · omega
  · have := (h.2.1.lt i e.symm).1
    have := h.2.2.1
    omega
/-- A new pen. -/
theorem pen_new (w : World) : PenAt (w.alloc (.cells #[.slice none 0 0] 105)) w.heap.size (w.heap.size + 1) (.slice none 0 0) [] := ⟨heap_alloc_new _ _, World.ownsRow_nil _ _ _ _, by omega, by simp⟩
/-- A pen's step turns nothing that was there when the pen was made. -/
theorem pen_turn {w0 w w' : World} {p B : Nat} {v v' : Value} {xs : List B8} (t : Turn (fun _ => False) w0 w) (hp : w0.heap.size ≤ p) (h : PenAt w p B v xs) (s : PenStep w w' p v v') : Turn (fun _ => False) w0 w' :=
  t.trans s.1 (fun i hi h' => pen_low h (by omega) h')
set_option maxHeartbeats 4000000 in
theorem sectorsOf_any (t n m : Nat) (ht : t ≤ 1099511627776) (hn : n ≤ 1099511627776) (hm : m ≤ 109951162777) (w : World) :
    Calls Tryd.prog 45 #[.int .i64 (t : Int), .int .i64 (n : Int), .int .i64 (m : Int)] w fun r w' => r = .returned (.int .i64 (((12 + ((numB t).length + ((numB n).length + (numB m).length)) + m + 63) / 64 : Nat) : Int)) ∧ Turn (fun _ => False) w w' := by
  have lT := numB_small ht
  have lN := numB_small hn
  have lM := numB_small (n := m) (by omega)
  obtain ⟨L, hL⟩ : ∃ L, L = (numB t).length + ((numB n).length + (numB m).length) := ⟨_, rfl⟩
  rw [← hL]
  have hL30 : L ≤ 30 := by omega
  obtain ⟨V, hV⟩ : ∃ V, V = (12 + L + m + 63) / 64 := ⟨_, rfl⟩
  rw [← hV]
  have HLL := Lib.hid hL
  have HV := Lib.hid hV
  have LEN := Lib.hid (And.intro lT (And.intro lN lM))
  clear hL hV lT lN lM
  obtain ⟨w1, hw1⟩ : ∃ w1, w1 = w.alloc (.cells #[.slice none 0 0] 105) := ⟨_, rfl⟩
  have t1 : Turn (fun _ => False) w w1 := by rw [hw1]; exact (Turn.refl _ _).alloc _
  have P1 := Lib.hid (show PenAt w1 w.heap.size (w.heap.size + 1) (.slice none 0 0) [] by rw [hw1]; exact pen_new w)
  have T1 := Lib.hid t1
  have C1 := Lib.hid (pnum_any w.heap.size _ _ _ t w1 P1.out (by omega) (by simp))
  clear t1
  go_enter Tryd.func45, Tryd.ntmps45
  go_upto_region 2 with fail
  change Code.wp _ _ _ _ (w.alloc (.cells #[.slice none 0 0] 105))
  rw [← hw1]
  clear hw1
  obtain ⟨p, hp⟩ : ∃ p, p = w.heap.size := ⟨_, rfl⟩
  have HP := Lib.hid (show w.heap.size ≤ p by omega)
  rw [← hp] at P1 C1 ⊢
  clear hp
  go_wp2_with (go_at_call 61; refine stop ?_)
  unfold Stop
  refine C1.out.mono ?_
  rintro r w2 ⟨rfl, v2, p2, s2⟩
  have T2 := Lib.hid (pen_turn T1.out HP.out P1.out s2)
  have C2 := Lib.hid (pnum_any p _ _ _ n w2 p2 (by omega) (by have := LEN.out; simp; omega))
  have P2 := Lib.hid p2
  clear C1 P1 T1 p2 s2
  go_wp2_with (go_at_call 61; refine stop ?_)
  unfold Stop
  refine C2.out.mono ?_
  rintro r w3 ⟨rfl, v3, p3, s3⟩
  have T3 := Lib.hid (pen_turn T2.out HP.out P2.out s3)
  have C3 := Lib.hid (pnum_any p _ _ _ m w3 p3 (by omega) (by have := LEN.out; simp; omega))
  have P3 := Lib.hid p3
  clear C2 P2 T2 p3 s3
  go_wp2_with (go_at_call 61; refine stop ?_)
  unfold Stop
  refine C3.out.mono ?_
  rintro r w4 ⟨rfl, v4, p4, s4⟩
  have T4 := Lib.hid (pen_turn T3.out HP.out P3.out s4)
  have hl4 : ([] ++ numB t ++ numB n ++ numB m).length = L := by rw [HLL.out]; simp [Nat.add_assoc]
  have C4 := pbytes_any p _ _ _ w4 p4 (by rw [hl4]; omega)
  rw [hl4] at C4
  have C4 := Lib.hid C4
  clear C3 P3 T3 p4 s4 hl4
  go_wp2_with (go_at_call 63; refine stop ?_)
  unfold Stop
  refine C4.out.mono ?_
  rintro r w5 ⟨u, rfl, o5, t5⟩
  obtain ⟨A5, c5, rfl, -, -, -, -⟩ := own_sl o5
  have T5 := Lib.hid (T4.out.trans t5 (fun _ _ h => h))
  have W5 := wholes_any (12 + L + m) (by omega) w5
  rw [show ((12 + L + m : Nat) : Int) = 12 + (L : Int) + (m : Int) by omega] at W5
  rw [← HV.out] at W5
  have W5 := Lib.hid W5
  clear C4 T4 o5 t5
  go_wp2_with (go_at_call 66; refine stop ?_)
  unfold Stop
  refine W5.out.mono ?_
  rintro r w6 ⟨rfl, hw6⟩
  rw [hw6]
  clear W5 hw6 w6
  go_wp2
  go_ret
  exact ⟨rfl, T5.out⟩
end
section
set_option linter.unusedVariables false
set_option linter.unusedSimpArgs false
open Go.RowKit
set_option maxRecDepth 100000
theorem set_next (P : List B8) (x : B8) (N i : Nat) (hi : P.length = i) (h : i < N) : ((P ++ zeros (N - i)).map bv).toArray.setIfInBounds i (bv x) = ((P ++ [x] ++ zeros (N - (i + 1))).map bv).toArray := by
  have e : zeros (N - i) = 0 :: zeros (N - (i + 1)) := by
    rw [show N - i = (N - (i + 1)) + 1 by omega]; rfl
  rw [e, List.setIfInBounds_toArray, List.map_append, List.set_append, if_neg (by rw [List.length_map]; omega), List.length_map, hi, Nat.sub_self]
  simp
theorem wb_cells (L : Nat) (h : L < 65536) : (wb (BitVec.ofNat 32 L)).map bv = [.int .u8 0, .int .u8 0, .int .u8 ((L / 256 : Nat) : Int), .int .u8 ((L % 256 : Nat) : Int)] := by
  simp only [wb, bv, List.map_cons, List.map_nil, BitVec.toNat_setWidth, BitVec.toNat_ushiftRight, BitVec.toNat_ofNat, Nat.shiftRight_eq_div_pow]
  simp only [List.cons.injEq, Value.int.injEq, true_and, and_true]
  omega
def ZI13 : Array Value := #[.int .u8 0, .int .u8 0, .int .u8 0, .int .u8 0, .int .u8 0, .int .u8 0, .int .u8 0, .int .u8 0, .int .u8 0, .int .u8 0, .int .u8 0, .int .u8 0, .int .u8 0, .int .u8 0, .int .u8 0, .int .u8 0, .int .u8 0, .int .u8 0, .int .u8 0, .int .u8 0, .int .u8 0, .int .u8 0, .int .u8 0, .int .u8 0, .int .u8 0, .int .u8 0, .int .u8 0, .int .u8 0, .int .u8 0, .int .u8 0, .int .u8 0, .int .u8 0]
/-- A slice of new bytes, a stretch of it. -/
theorem slice_new (g N l h : Nat) (hl : l < N) (h1 : l ≤ h) (h2 : h ≤ N) (w : World) : (Instr.slice 36 (.slice (some ⟨g, 0, none⟩) N N) (some (.int .i64 (l : Int))) (some (.int .i64 (h : Int))) none).run Tryd.prog w = .ok (.slice (some ⟨g, l, none⟩) (h - l) (N - l)) w := by
  rw [run_slice_lh (P := Tryd.prog) w 36 (some ⟨g, 0, none⟩) N N (by kernel_rfl) .i64 .i64 (l : Int) (h : Int) (by omega) (by omega) (by omega)]
  rw [show Tryd.prog.elem 36 = 5 by kernel_rfl, size_u8]
  simp only [Result.andThen, sliced, Int.toNat_natCast, Nat.mul_one]
  rw [if_neg (by omega), Option.map_some, add_row]
theorem slice_new_l (g N l : Nat) (hl : l < N) (w : World) : (Instr.slice 36 (.slice (some ⟨g, 0, none⟩) N N) (some (.int .i64 (l : Int))) none none).run Tryd.prog w = .ok (.slice (some ⟨g, l, none⟩) (N - l) (N - l)) w := by
  rw [run_slice_l (P := Tryd.prog) w 36 (some ⟨g, 0, none⟩) N N (by kernel_rfl) .i64 (l : Int) (by omega) (by omega)]
  rw [show Tryd.prog.elem 36 = 5 by kernel_rfl, size_u8]
  simp only [Result.andThen, sliced, Int.toNat_natCast, Nat.mul_one]
  rw [if_neg (by omega), Option.map_some, add_row]
theorem sec_count (L : Nat) : 64 * ((12 + L + 63) / 64) = 12 + L + secPad (12 + L) := by
  unfold secPad; omega
theorem splice_mid (P Q : List B8) (N p q : Nat) (hP : P.length = p) (hQ : Q.length = q) (h : p + q ≤ N) : splice ((P ++ zeros (N - p)).map bv) p (Q.map bv) = (P ++ Q ++ zeros (N - (p + q))).map bv := by
  have e : (P ++ zeros (N - p)).drop (p + q) = zeros (N - (p + q)) := by
    rw [List.drop_append, List.drop_of_length_le (by omega), List.nil_append, hP, Nat.add_sub_cancel_left, zeros, zeros, List.drop_replicate]
    congr 1; omega
  unfold splice
  rw [List.length_map, hQ, ← List.map_take, ← List.map_drop, e, List.take_left' hP]
  simp
theorem below_turn {g : Nat} {w w' : World} (h : Below g w w') : Turn (fun k => g ≤ k) w w' := ⟨h.os, h.tape, h.output, h.size, fun k _ hS => h.block k (by omega)⟩
set_option maxHeartbeats 16000000 in
theorem lform_any (t n : Int) (A : Option Addr) (c : Nat) (b : List B8) (w : World) (hG : Glob w) (hb : Bts w A b) (hA : A = none → c = 0) (hc : b.length ≤ c) (hlen : b.length ≤ 900000) :
    Calls Tryd.prog 43 #[.int .i64 t, .int .i64 n, .slice A b.length c] w fun r w' => ∃ A' c', r = .returned (.tuple #[.slice A' (formV13 t n b).length c', .int .i64 (formE13 t n b : Int)]) ∧ SlN w' (fun k => k < w.heap.size) A' ((formV13 t n b).map bv) ∧ (A' = none → c' = 0) ∧ (formV13 t n b).length ≤ c' ∧ Turn (fun _ => False) w w' := by
  have err : ∀ (x : Nat), formE13 t n b = x → x ≠ 0 → Calls Tryd.prog 43 #[.int .i64 t, .int .i64 n, .slice A b.length c] w (fun r w' => r = .returned (.tuple #[.slice none 0 0, .int .i64 (x : Int)]) ∧ Turn (fun _ => False) w w') →
      Calls Tryd.prog 43 #[.int .i64 t, .int .i64 n, .slice A b.length c] w fun r w' => ∃ A' c', r = .returned (.tuple #[.slice A' (formV13 t n b).length c', .int .i64 (formE13 t n b : Int)]) ∧ SlN w' (fun k => k < w.heap.size) A' ((formV13 t n b).map bv) ∧ (A' = none → c' = 0) ∧ (formV13 t n b).length ≤ c' ∧ Turn (fun _ => False) w w' := by
    intro x hx h0 hc
    refine hc.mono ?_
    rintro r w' ⟨rfl, hw⟩
    have e : formV13 t n b = [] := by unfold formV13; rw [if_neg (by omega)]
    rw [e, hx]
    exact ⟨none, 0, rfl, fun j u hu => by simp at hu, fun _ => rfl, by simp, hw⟩
  have O1 := outside_any t
  have O2 := outside_any n
  by_cases h1 : t < 0 ∨ 1099511627776 < t
  · rw [decide_eq_true h1] at O1
    have O1 := Lib.hid O1
    refine err 5 (by unfold formE13 mostS; rw [if_pos (by omega)]) (by decide) ?_
    clear err hb h1 O2
    go_enter Tryd.func43, Tryd.ntmps43
    go_wp2_with (go_at_call 60; refine stop ?_)
    unfold Stop
    refine (O1.out w).mono ?_
    rintro r w1 ⟨rfl, hw1⟩
    rw [hw1]
    clear hw1 w1
    go_wp2
    refine bodyPost_ret (results_tmp2 rfl _ _ _) rfl ?_
    exact ⟨rfl, Turn.refl _ _⟩
  rw [decide_eq_false h1] at O1
  by_cases h2 : n < 0 ∨ 1099511627776 < n
  · rw [decide_eq_true h2] at O2
    have O1 := Lib.hid O1
    have O2 := Lib.hid O2
    refine err 5 (by unfold formE13 mostS; rw [if_pos (by omega)]) (by decide) ?_
    clear err hb h1 h2
    go_enter Tryd.func43, Tryd.ntmps43
    go_wp2_with (go_at_call 60; refine stop ?_)
    unfold Stop
    refine (O1.out w).mono ?_
    rintro r w1 ⟨rfl, hw1⟩
    rw [hw1]
    clear hw1 w1
    go_wp2_with (go_at_call 60; refine stop ?_)
    unfold Stop
    refine (O2.out w).mono ?_
    rintro r w1 ⟨rfl, hw1⟩
    rw [hw1]
    clear hw1 w1
    go_wp2
    refine bodyPost_ret (results_tmp2 rfl _ _ _) rfl ?_
    exact ⟨rfl, Turn.refl _ _⟩
  rw [decide_eq_false h2] at O2
  have O1 := Lib.hid O1
  have O2 := Lib.hid O2
  obtain ⟨T, rfl⟩ : ∃ T : Nat, t = (T : Int) := ⟨t.toNat, by omega⟩
  obtain ⟨N, rfl⟩ : ∃ N : Nat, n = (N : Int) := ⟨n.toNat, by omega⟩
  have hT : T ≤ 1099511627776 := by omega
  have hN : N ≤ 1099511627776 := by omega
  have hE : formE13 (T : Int) (N : Int) b = if 65524 < (fldS T N b).length then 4 else 0 := by
    unfold formE13
    rw [if_neg (by unfold mostS; omega)]; rfl
  have lT := numB_small hT
  have lN := numB_small hN
  have lB := numB_small (n := b.length) (by omega)
  have hfl : (fldS T N b).length = (numB T).length + ((numB N).length + ((numB b.length).length + b.length)) := by simp [fldS]
  have SO := sectorsOf_any T N b.length hT hN (by omega) w
  obtain ⟨L, hL⟩ : ∃ L, L = (fldS T N b).length := ⟨_, rfl⟩
  rw [show 12 + ((numB T).length + ((numB N).length + (numB b.length).length)) + b.length + 63 = 12 + L + 63 by omega] at SO
  obtain ⟨S, hS⟩ : ∃ S, S = (12 + L + 63) / 64 := ⟨_, rfl⟩
  rw [← hS] at SO
  have SO := Lib.hid SO
  have hL9 : L ≤ 900027 := by omega
  by_cases hbig : 65524 < L
  · refine err 4 (by rw [hE, ← hL, if_pos hbig]) (by decide) ?_
    have dd : decide ((1024 : Int) < (S : Int)) = true := decide_eq_true (by omega)
    clear err hb h1 h2 hE hfl hL hS
    go_enter Tryd.func43, Tryd.ntmps43
    go_wp2_with (go_at_call 60; refine stop ?_)
    unfold Stop
    refine (O1.out w).mono ?_
    rintro r w1 ⟨rfl, hw1⟩
    rw [hw1]
    clear hw1 w1
    go_wp2_with (go_at_call 60; refine stop ?_)
    unfold Stop
    refine (O2.out w).mono ?_
    rintro r w1 ⟨rfl, hw1⟩
    rw [hw1]
    clear hw1 w1
    go_wp2_with (go_at_call 45; refine stop ?_)
    unfold Stop
    refine SO.out.mono ?_
    rintro r w1 ⟨rfl, t1⟩
    have T1 := Lib.hid t1
    clear t1 SO
    go_wp2
    refine bodyPost_ret (results_tmp2 rfl _ _ _) rfl ?_
    exact ⟨rfl, T1.out⟩
  clear err
  have he : formE13 (T : Int) (N : Int) b = 0 := by rw [hE, ← hL, if_neg hbig]
  have hv : formV13 (T : Int) (N : Int) b = laidS (fldS T N b) := by unfold formV13; rw [if_pos he]; rfl
  rw [he, hv]
  have hcnt := sec_count L
  rw [← hS] at hcnt
  have hlv : (laidS (fldS T N b)).length = 64 * S := by rw [laidS_len, ← hL, hcnt]
  rw [hlv]
  obtain ⟨F, hFF⟩ : ∃ F, F = fldS T N b := ⟨_, rfl⟩
  rw [← hFF] at hL hlv ⊢
  obtain ⟨NN, hNN⟩ : ∃ NN, NN = 64 * S := ⟨_, rfl⟩
  rw [← hNN] at hlv hcnt ⊢
  have HNN := Lib.hid hNN
  have HFl := Lib.hid (show F.length = L from hL.symm)
  have HF := Lib.hid hFF
  have HLV := Lib.hid hlv
  have hS1 : 1 ≤ S := by omega
  have hS2 : S ≤ 1024 := by omega
  have dd : decide ((1024 : Int) < (S : Int)) = false := decide_eq_false (by omega)
  have HFL := Lib.hid hfl
  have HL := Lib.hid hL
  have HCNT := Lib.hid hcnt
  have HB := Lib.hid hb
  have HG := Lib.hid hG
  obtain ⟨lb, hlb⟩ : ∃ x, x = b.length := ⟨_, rfl⟩
  rw [← hlb] at SO hlen hc lB ⊢
  have HLB := Lib.hid hlb
  have HAC := Lib.hid (And.intro hA hc)
  have hL6 : L ≤ 65524 := by omega
  have hn64 : 64 ≤ NN := by omega
  have hn65 : NN ≤ 65536 := by omega
  have hn12 : 12 + L ≤ NN := by omega
  have mk : ∀ w, (Instr.makeSlice 36 (.int .i64 ((S : Int) * 64)) (.int .i64 ((S : Int) * 64))).run Tryd.prog w = .ok (.slice (some ⟨w.heap.size, 0, none⟩) NN NN) (w.alloc (.cells ((zeros NN).map bv).toArray 5)) := fun w => by
    rw [show (S : Int) * 64 = ((NN : Nat) : Int) by omega]; exact make_bytes NN (by omega) w
  obtain ⟨ZN, hZN⟩ : ∃ Z, Z = ((zeros NN).map bv).toArray := ⟨_, rfl⟩
  rw [← hZN] at mk
  have HZN := Lib.hid hZN
  clear h1 h2 hE hfl hL hS hb hG he hv hlv hcnt hlb hA hc hbig hFF hNN hZN
  go_enter Tryd.func43, Tryd.ntmps43
  go_wp2_with (go_at_call 60; refine stop ?_)
  unfold Stop
  refine (O1.out w).mono ?_
  rintro r w1 ⟨rfl, hw1⟩
  rw [hw1]
  clear hw1 w1
  go_wp2_with (go_at_call 60; refine stop ?_)
  unfold Stop
  refine (O2.out w).mono ?_
  rintro r w1 ⟨rfl, hw1⟩
  rw [hw1]
  clear hw1 w1
  go_wp2_with (go_at_call 45; refine stop ?_)
  unfold Stop
  refine SO.out.mono ?_
  rintro r w0 ⟨rfl, t0⟩
  have T0 := Lib.hid t0
  clear t0 SO O1 O2
  go_upto_region 7 with fail
  obtain ⟨w1, hw1⟩ : ∃ w1, w1 = w0.alloc (.cells #[.slice none 0 0] 105) := ⟨_, rfl⟩
  change Code.wp _ _ _ _ (w0.alloc (.cells #[.slice none 0 0] 105))
  rw [← hw1]
  have t1 : Turn (fun _ => False) w w1 := by rw [hw1]; exact T0.out.alloc _
  have P1 := Lib.hid (show PenAt w1 w0.heap.size (w0.heap.size + 1) (.slice none 0 0) [] by rw [hw1]; exact pen_new w0)
  have T1 := Lib.hid t1
  obtain ⟨p, hp⟩ : ∃ p, p = w0.heap.size := ⟨_, rfl⟩
  have HP := Lib.hid (show w.heap.size ≤ p by have := T0.out.size; omega)
  rw [← hp] at P1 ⊢
  have C1 := Lib.hid (pnum_any p _ _ _ T w1 P1.out (by omega) (by simp))
  clear t1 hw1 hp T0
  go_wp2_with (go_at_call 61; refine stop ?_)
  unfold Stop
  refine C1.out.mono ?_
  rintro r w2 ⟨rfl, v2, p2, s2⟩
  have T2 := Lib.hid (pen_turn T1.out HP.out P1.out s2)
  have C2 := Lib.hid (pnum_any p _ _ _ N w2 p2 (by omega) (by simp; omega))
  have P2 := Lib.hid p2
  clear C1 P1 T1 p2 s2
  go_wp2_with (go_at_call 61; refine stop ?_)
  unfold Stop
  refine C2.out.mono ?_
  rintro r w3 ⟨rfl, v3, p3, s3⟩
  have T3 := Lib.hid (pen_turn T2.out HP.out P2.out s3)
  have hs3 : SlN w3 (fun i => i = p ∨ some i = v3.ownBlock) A (b.map bv) := by
    have h0 := (HB.out.below (turn_stp' T3.out))
    intro j u hu
    obtain ⟨ad, e, hcl⟩ := HB.out j u hu
    have hlt := World.block_lt_of_cell? w _ hcl
    rw [add_block] at hlt
    exact ⟨ad, e, pen_low p3 (by have := HP.out; omega), T3.out.cell hcl (fun h => h)⟩
  have C3 := ptext_any p _ _ _ b A c w3 p3 hs3 HAC.out.1 (by rw [← HLB.out]; exact HAC.out.2) (by rw [← HLB.out]; simp; omega)
  rw [← HLB.out] at C3
  have C3 := Lib.hid C3
  have P3 := Lib.hid p3
  clear C2 P2 T2 p3 s3 hs3
  go_wp2_with (go_at_call 62; refine stop ?_)
  unfold Stop
  refine C3.out.mono ?_
  rintro r w4 ⟨rfl, v4, p4, s4⟩
  have T4 := Lib.hid (pen_turn T3.out HP.out P3.out s4)
  have hF : [] ++ numB T ++ numB N ++ (numB lb ++ b) = fldS T N b := by rw [HLB.out]; simp [fldS]
  rw [hF, ← HF.out] at p4
  have C4 := pbytes_any p _ _ _ w4 p4 (by rw [HFl.out]; omega)
  rw [HFl.out] at C4
  have C4 := Lib.hid C4
  clear C3 P3 T3 p4 s4 hF
  go_wp2_with (go_at_call 63; refine stop ?_)
  unfold Stop
  refine C4.out.mono ?_
  rintro r w5 ⟨u, rfl, o5, t5⟩
  obtain ⟨A5, c5, rfl, -, -, k5, a5⟩ := own_sl o5
  have T5 := Lib.hid (T4.out.trans t5 (fun _ _ h => h))
  have B5 := Lib.hid (own_bts' o5)
  clear C4 T4 o5 t5
  go_wp2_with (go_at_call 64; refine stop ?_)
  unfold Stop
  obtain ⟨w6, hw6⟩ : ∃ w6, w6 = w5.alloc (.cells #[.slice A5 L c5] 36) := ⟨_, rfl⟩
  have t6 : Turn (fun _ => False) w w6 := by rw [hw6]; exact T5.out.alloc _
  have hL6' : Lst w6 (some ⟨w5.heap.size, 0, none⟩) [F] := fun i xs hi => by
    match i, hi with
    | 0, hi =>
      obtain rfl : F = xs := by simpa using hi
      refine ⟨_, A5, c5, rfl, ?_, by rw [HFl.out]; exact k5, B5.out.below (by rw [hw6]; exact (Below.refl _ _).alloc (Nat.le_refl _) _)⟩
      rw [add_row, hw6, cell_of_row _ _ _ _ _ _ (heap_alloc_new w5 _), HFl.out]; rfl
  have B6 := Lib.hid (show Bts w6 A5 F from B5.out.below (by rw [hw6]; exact (Below.refl _ _).alloc (Nat.le_refl _) _))
  have hub : underB 13 [F] = 13 :: longB F := by simp [underB]
  have U6 := under_any 13 (some ⟨w5.heap.size, 0, none⟩) 1 [F] w6 hL6' (glob_turn HG.out t6) (by rw [hub, List.length_cons, long_len, HFl.out]; omega) (by simp)
  rw [hub] at U6
  obtain ⟨D, hD⟩ : ∃ D, D = ((dig (13 :: longB F)).map bv).toArray := ⟨_, rfl⟩
  rw [← hD] at U6
  have D1 := Lib.hid (show D.size = 32 by rw [hD, List.size_toArray, List.length_map, dig_len])
  have D3 := Lib.hid (show D.all (·.oneCell') = true by rw [hD]; simp [bv, Value.oneCell'])
  have HD := Lib.hid hD
  have U6 := Lib.hid (show Calls Tryd.prog 64 #[.int .u8 13, .slice (some ⟨w5.heap.size, 0, none⟩) 1 1] w6 _ from U6)
  have T6 := Lib.hid t6
  rw [← hw6]
  clear hw6 t6 hL6' hub hD T5 B5
  refine U6.out.mono ?_
  rintro e w7 ⟨rfl, hb7⟩
  have T7 := Lib.hid (T6.out.trans (of_turn hb7) (fun _ _ h => h))
  have B7 := Lib.hid (B6.out.below hb7)
  clear hb7 T6 B6 U6
  have HZ7 := Lib.hid (show (w7.alloc (.cells ZI13 109)).heap[w7.heap.size]? = some (.cells ZI13 109 (0, 0)) from heap_alloc_new _ _)
  have KI := Lib.hid (show (Tryd.prog.info? 109).map (·.size) = some D.size from by rw [D1.out]; kernel_rfl)
  have KZ := Lib.hid (show ZI13.size = D.size from by rw [D1.out]; rfl)
  go_wp2_with (refine wpList_store_row rfl _ _ _ rfl w7.heap.size D rfl rfl _ ZI13 HZ7.out KI.out KZ.out D3.out ?_; refine stop ?_)
  unfold Stop
  obtain ⟨w8, hw8⟩ : ∃ w8, w8 = (w7.alloc (.cells ZI13 109)).setRow w7.heap.size D := ⟨_, rfl⟩
  change wpList _ _ _ _ _ ((w7.alloc (.cells ZI13 109)).setRow w7.heap.size D)
  have t8 : Turn (fun _ => False) w7 w8 := by rw [hw8]; exact ((Turn.refl (fun _ => False) w7).alloc _).setRow _ _ (fun h => by omega)
  obtain ⟨q, hq⟩ : ∃ q, q = w7.heap.size := ⟨_, rfl⟩
  have HI8 := Lib.hid (show w8.heap[q]? = some (.cells D 109 (0, 0)) by rw [hw8, hq]; exact setRow_heap _ _ _ _ _ _ HZ7.out)
  rw [← hw8, ← hq]
  have T8 := Lib.hid (T7.out.trans t8 (fun _ _ h => h))
  have B8' := Lib.hid (B7.out.below (turn_stp' t8))
  clear hw8 hq t8 HZ7 KI KZ T7 B7 D1 D3
  go_upto_region 14 with fail
  obtain ⟨w9, hw9⟩ : ∃ w9, w9 = w8.alloc (.cells ZN 5) := ⟨_, rfl⟩
  change Code.wp _ _ _ _ (w8.alloc (.cells ZN 5))
  have t9 : Turn (fun _ => False) w8 w9 := by rw [hw9]; exact (Turn.refl _ _).alloc _
  obtain ⟨g, hg⟩ : ∃ g, g = w8.heap.size := ⟨_, rfl⟩
  have G9 := Lib.hid (show w9.heap[g]? = some (.cells ZN 5 (0, 0)) by rw [hw9, hg]; exact heap_alloc_new _ _)
  have HGE := Lib.hid (show w.heap.size ≤ g by rw [hg]; exact T8.out.size)
  have HGN := Lib.hid (show q < g by rw [hg]; exact lt_of_block HI8.out)
  have HI9 := Lib.hid (t9.heap HI8.out (fun h => h))
  have T9 := Lib.hid (T8.out.trans t9 (fun _ _ h => h))
  have B9 := Lib.hid (show Sl w9 g A5 (F.map bv) from fun j u h => by
    obtain ⟨ad, e, hcl⟩ := B8'.out j u h
    have hlt := World.block_lt_of_cell? w8 _ hcl
    rw [add_block] at hlt
    exact ⟨ad, e, by omega, t9.cell hcl (fun h => h)⟩)
  rw [← hw9, ← hg]
  clear hw9 hg t9 T8 HI8 B8'
  obtain ⟨W4, hW4⟩ : ∃ W, W = wb (BitVec.ofNat 32 L) := ⟨_, rfl⟩
  have hwc := wb_cells L (by omega)
  rw [← hW4] at hwc
  have W4L := Lib.hid (show W4.length = 4 by rw [hW4]; rfl)
  have HW4 := Lib.hid hW4
  clear hW4
  go_loopw [42] (fun iv wr => ∃ i : Nat, i ≤ 4 ∧ iv = .int .i64 (i : Int) ∧ wr.heap[g]? = some (.cells ((W4.take i ++ zeros (NN - i)).map bv).toArray 5 (0, 0)) ∧ Turn (fun k => k = g) w9 wr) (fun iv _ => 4 - (intOf iv).toNat)
  case atStart => exact ⟨0, by omega, rfl, by rw [List.take_zero, List.nil_append, Nat.sub_zero, ← HZN.out]; exact G9.out, Turn.refl _ _⟩
  case round =>
    obtain ⟨i, hi4, rfl, hrow, ht⟩ := hrel
    by_cases hi : i < 4
    · have hcell : wr.cell? ⟨g, i, none⟩ = some (.int .u8 0) := by
        rw [cell_of_row _ _ _ _ _ _ hrow, List.getElem?_toArray, List.getElem?_map, List.getElem?_append_right (by rw [List.length_take, W4L.out]; omega), List.length_take, W4L.out, Nat.min_eq_left (by omega), Nat.sub_self, zeros, List.getElem?_replicate, if_pos (by omega)]
        rfl
      have hfr := frozen_of_row wr g i _ _ hrow
      obtain ⟨x, hx⟩ : ∃ x, W4[i]? = some x := ⟨_, List.getElem?_eq_getElem (by rw [W4L.out]; exact hi)⟩
      have hxv : (W4.map bv)[i]? = some (bv x) := by rw [List.getElem?_map, hx]; rfl
      rw [hwc] at hxv
      have hst := set_next (W4.take i) x NN i (by rw [List.length_take, W4L.out]; omega) (by omega)
      rw [show W4.take i ++ [x] = W4.take (i + 1) by rw [List.take_add_one, hx]; rfl] at hst
      have HST := Lib.hid hst
      have HR := Lib.hid hrow
      have HT := Lib.hid ht
      clear hst hx hrow ht
      obtain rfl | rfl | rfl | rfl : i = 0 ∨ i = 1 ∨ i = 2 ∨ i = 3 := by omega
      · simp only [List.getElem?_cons_zero, List.getElem?_cons_succ, Option.some.injEq] at hxv
        go_wp2
        go_roundw
        case rel =>
          refine ⟨1, by omega, by go_num, ?_, HT.out.setCell _ _ (fun _ => rfl)⟩
          rw [heap_setCell_same _ _ _ _ _ _ HR.out, ← HST.out, ← hxv]
          first
          | rfl
          | (have hv : (L : Int) / 16777216 = 0 := by omega
             rw [hv])
          | (have hv : (L : Int) / 65536 = 0 := by omega
             rw [hv])
        case measure => simp [intOf]
      · simp only [List.getElem?_cons_zero, List.getElem?_cons_succ, Option.some.injEq] at hxv
        go_wp2
        go_roundw
        case rel =>
          refine ⟨2, by omega, by go_num, ?_, HT.out.setCell _ _ (fun _ => rfl)⟩
          rw [heap_setCell_same _ _ _ _ _ _ HR.out, ← HST.out, ← hxv]
          first
          | rfl
          | (have hv : (L : Int) / 16777216 = 0 := by omega
             rw [hv])
          | (have hv : (L : Int) / 65536 = 0 := by omega
             rw [hv])
        case measure => simp [intOf]
      · simp only [List.getElem?_cons_zero, List.getElem?_cons_succ, Option.some.injEq] at hxv
        go_wp2
        go_roundw
        case rel =>
          refine ⟨3, by omega, by go_num, ?_, HT.out.setCell _ _ (fun _ => rfl)⟩
          rw [heap_setCell_same _ _ _ _ _ _ HR.out, ← HST.out, ← hxv]
          first
          | rfl
          | (have hv : (L : Int) / 16777216 = 0 := by omega
             rw [hv])
          | (have hv : (L : Int) / 65536 = 0 := by omega
             rw [hv])
        case measure => simp [intOf]
      · simp only [List.getElem?_cons_zero, List.getElem?_cons_succ, Option.some.injEq] at hxv
        go_wp2
        go_roundw
        case rel =>
          refine ⟨4, by omega, by go_num, ?_, HT.out.setCell _ _ (fun _ => rfl)⟩
          rw [heap_setCell_same _ _ _ _ _ _ HR.out, ← HST.out, ← hxv]
          first
          | rfl
          | (have hv : (L : Int) / 16777216 = 0 := by omega
             rw [hv])
          | (have hv : (L : Int) / 65536 = 0 := by omega
             rw [hv])
        case measure => simp [intOf]
    · obtain rfl : i = 4 := by omega
      rw [List.take_of_length_le (by rw [W4L.out]; omega)] at hrow
      have G10 := Lib.hid hrow
      have T10 := Lib.hid (T9.out.trans ht (fun i hi h => by have h' : i = g := h; have := HGE.out; omega))
      have I10 := Lib.hid (ht.heap HI9.out (fun h => by have h' : q = g := h; have := HGN.out; omega))
      have B10 := Lib.hid (ht.sl B9.out (fun i hi h => by have h' : i = g := h; omega))
      clear hrow ht G9 T9 HI9 B9
      go_upto_region 18 with fail
      have s1 : ∀ w, (Instr.slice 36 (.slice (some ⟨g, 0, none⟩) NN NN) (some (.int .i64 4)) (some (.int .i64 12)) none).run Tryd.prog w = .ok (.slice (some ⟨g, 4, none⟩) 8 (NN - 4)) w := fun w => slice_new g NN 4 12 (by omega) (by omega) (by omega) w
      have s2 : ∀ w, (Instr.slice 36 (.slice (some ⟨g, 0, none⟩) NN NN) (some (.int .i64 12)) none none).run Tryd.prog w = .ok (.slice (some ⟨g, 12, none⟩) (NN - 12) (NN - 12)) w := fun w => slice_new_l g NN 12 (by omega) w
      have s3 := slice_idz q
      refine wp_region_still_tail 3 (by kernel_rfl) (by kernel_rfl) ?_
      simp only [List.take_succ_cons, List.take_zero, List.drop_succ_cons, List.drop_zero]
      change wpStill _ _ wr.drew (fun a' => wpList _ _ _ _ a' wr.drew) _ _
      obtain ⟨wd, hwd⟩ : ∃ wd, wd = wr.drew := ⟨_, rfl⟩
      have td : Turn (fun _ => False) wr wd := by rw [hwd]; exact (Turn.refl _ _).drew
      have G11 := Lib.hid (show wd.heap[g]? = some (.cells ((W4 ++ zeros (NN - 4)).map bv).toArray 5 (0, 0)) from td.heap G10.out (fun h => h))
      have I11 := Lib.hid (td.heap I10.out (fun h => h))
      have T11 := Lib.hid (T10.out.trans td (fun _ _ h => h))
      have B11 := Lib.hid (td.sl B10.out (fun _ _ h => h))
      rw [← hwd]
      clear hwd td G10 I10 T10 B10
      repeat still_step
      refine wpStill_nil ?_
      have hs8 := sumS_len F
      have hsum : ∀ (j : Nat) (v : Value), ((sumS F).map bv)[j]? = some v → wd.cell? ((⟨q, 0, none⟩ : Addr).add j) = some v := fun j v hv => by
        rw [add_row, cell_of_row _ _ _ _ _ _ I11.out, HD.out, List.getElem?_toArray]
        unfold sumS at hv
        rw [List.map_take, List.getElem?_take] at hv
        split at hv
        · exact hv
        · cases hv
      refine wpList_copy_splice (o := ⟨some 59, _, _, _, _, _⟩) rfl _ _ _ _ rfl 5 Tryd.underlying36 (by kernel_rfl) _ _ 8 (NN - 4) 32 32 rfl rfl g 4 ((W4 ++ zeros (NN - 4)).map bv) _ G11.out ((sumS F).map bv) (by rw [List.length_map, hs8]; rfl) (fun _ => ⟨rfl, _, rfl, hsum⟩) (by rw [List.length_map, List.length_map, hs8, List.length_append, W4L.out, zeros_len]; omega) (bv_one _) g wd (Below.refl _ _) (Nat.le_refl _) ?_
      intro w12 h12 b12
      have t12 := below_turn b12
      rw [splice_mid W4 (sumS F) NN 4 8 W4L.out hs8 (by omega)] at h12
      have G12 := Lib.hid h12.out
      have T12 := Lib.hid (T11.out.trans t12 (fun i hi h => by have h' : g ≤ i := h; have := HGE.out; omega))
      have B12 := Lib.hid (t12.sl B11.out (fun i hi h => by have h' : g ≤ i := h; omega))
      clear h12 b12 t12 G11 T11 B11 I11 hsum s1 s3
      go_upto_region 19 with fail
      go_step
      iterate 9 go_step
      refine wpList_copy_splice (o := ⟨some 63, _, _, _, _, _⟩) rfl _ _ _ _ rfl 5 Tryd.underlying36 (by kernel_rfl) _ _ (NN - 12) (NN - 12) L c5 rfl rfl g 12 ((W4 ++ sumS F ++ zeros (NN - 12)).map bv) _ G12.out (F.map bv) (by rw [List.length_map, HFl.out]; exact (Nat.min_eq_left (by omega)).symm) (fun hp => ?_) (by rw [List.length_map, List.length_map, HFl.out, List.length_append, List.length_append, W4L.out, hs8, zeros_len]; omega) (bv_one _) g w12 (Below.refl _ _) (Nat.le_refl _) ?_
      · obtain ⟨u, hu⟩ : ∃ u, (F.map bv)[0]? = some u := ⟨_, List.getElem?_eq_getElem hp⟩
        obtain ⟨ad, rfl, -, -⟩ := B12.out 0 u hu
        exact ⟨rfl, ad, rfl, fun j v hv => by
          obtain ⟨ad', e, -, hc⟩ := B12.out j v hv
          injection e with e; subst e; exact hc⟩
      intro w13 h13 b13
      have t13 := below_turn b13
      have hfin : W4 ++ sumS F ++ F ++ zeros (NN - (12 + L)) = laidS F := by
        have e : NN - (12 + L) = secPad (12 + L) := by have := HCNT.out; omega
        rw [e, HW4.out]
        unfold laidS headS
        rw [HFl.out, List.append_assoc]
      rw [splice_mid (W4 ++ sumS F) F NN 12 L (by rw [List.length_append, W4L.out, hs8]) HFl.out (by omega), hfin] at h13
      have G13 := Lib.hid h13.out
      have T13 := Lib.hid (T12.out.trans t13 (fun i hi h => by have h' : g ≤ i := h; have := HGE.out; omega))
      clear h13 b13 t13 G12 T12 B12 hfin
      go_wp2
      refine bodyPost_ret (results_tmp2 rfl _ _ _) rfl ?_
      refine ⟨some ⟨g, 0, none⟩, NN, rfl, fun j u hu => ⟨_, rfl, by show ¬ g < w.heap.size; have := HGE.out; omega, ?_⟩, fun h => by (cases h), Nat.le_refl _, T13.out⟩
      rw [add_row, cell_of_row _ _ _ _ _ _ G13.out, List.getElem?_toArray]; exact hu
end
section
set_option linter.unusedVariables false
set_option linter.unusedSimpArgs false
open Go.RowKit
set_option maxRecDepth 100000
def RBx (w : World) (x : Nat) (t n : Nat) (v : Value) : Prop := w.heap[x]? = some (.cells #[.int .i64 (t : Int), .int .i64 (n : Int), v] 124 (0, 0))
section
variable {w w' : World} {x t n : Nat} {v : Value}
theorem RBx.cells (h : RBx w x t n v) : w.cell? ⟨x, 0, none⟩ = some (.int .i64 (t : Int)) ∧ w.cell? ⟨x, 1, none⟩ = some (.int .i64 (n : Int)) ∧ w.cell? ⟨x, 2, none⟩ = some v ∧ w.frozen? ⟨x, 0, none⟩ = false ∧ w.frozen? ⟨x, 1, none⟩ = false ∧ w.frozen? ⟨x, 2, none⟩ = false :=
  ⟨by rw [cell_of_row w x 0 _ _ _ h]; rfl, by rw [cell_of_row w x 1 _ _ _ h]; rfl, by rw [cell_of_row w x 2 _ _ _ h]; rfl, frozen_of_row w x 0 _ _ h, frozen_of_row w x 1 _ _ h, frozen_of_row w x 2 _ _ h⟩
theorem RBx.turn {S : Nat → Prop} (h : RBx w x t n v) (k : Turn S w w') (hS : ¬ S x) : RBx w' x t n v := k.heap h hS
theorem RBx.set0 (h : RBx w x t n v) (y : Nat) : RBx (w.setCell ⟨x, 0, none⟩ (.int .i64 (y : Int))) x y n v := by
  unfold RBx; rw [heap_setCell_same w x 0 _ _ _ h]; rfl
theorem RBx.set1 (h : RBx w x t n v) (y : Nat) : RBx (w.setCell ⟨x, 1, none⟩ (.int .i64 (y : Int))) x t y v := by
  unfold RBx; rw [heap_setCell_same w x 1 _ _ _ h]; rfl
theorem RBx.set2 (h : RBx w x t n v) (y : Value) : RBx (w.setCell ⟨x, 2, none⟩ y) x t n y := by
  unfold RBx; rw [heap_setCell_same w x 2 _ _ _ h]; rfl
end
theorem set_turn13 (w : World) (x o : Nat) (v : Value) : Turn (fun i => i = x) w (w.setCell ⟨x, o, none⟩ v) := (Turn.refl _ _).setCell _ _ (fun _ => rfl)
theorem eNum_le13 {m : Nat} {l : List B8} (h : eNum m l = 0) : numV l ≤ m := by
  unfold eNum at h
  split at h
  · omega
  · split at h <;> omega
/-- What the reader comes to. -/
def FrPost (e E x : Nat) (N : Nat → Prop) (f : List B8) (w : World) (r : Ending) (w' : World) : Prop :=
  (fldE f = 0 ∧ r = .returned (.tuple #[]) ∧ (∃ A c, RBx w' x (numV f) (numV (numR f)) (.slice A (fldK f) c) ∧ SlN w' (fun i => i < w.heap.size) A (((fldT f).take (fldK f)).map bv) ∧ (A = none → c = 0) ∧ fldK f ≤ c) ∧ Eye0 w' e E N ((fldT f).drop (fldK f)) ∧ Turn (fun i => i = e ∨ i = x) w w') ∨
  (fldE f ≠ 0 ∧ r = pan E ∧ EyeX w' e E (fldE f) ∧ Turn (fun i => i = e ∨ i = E ∨ i = x) w w')
set_option maxHeartbeats 4000000 in
theorem first1_any (e E x y m : Nat) (N : Nat → Prop) (f : List B8) (w : World) (h : Eye0 w e E N f) (hN : ∀ i, w.heap.size ≤ i → N i) (hx : RBx w x 0 0 (.slice none 0 0)) (hy : w.cell? ⟨y, 0, none⟩ = some (.int .i64 (m : Int))) (hm : m = f.length) (hm2 : m ≤ 65524)
    (hxe : x ≠ e) (hxE : x ≠ E) (hye : y ≠ e) (hyx : y ≠ x) (hNx : N x) :
    Calls Tryd.prog 85 #[.pointer (some ⟨e, 0, none⟩), .pointer (some ⟨x, 0, none⟩), .pointer (some ⟨y, 0, none⟩)] w (FrPost e E x N f w) := by
  have hlt := h.lt
  have HX := Lib.hid hx
  have HY := Lib.hid hy
  have HE := Lib.hid h
  have HNX := Lib.hid hNx
  have hws := lt_of_block hx
  have HWS := Lib.hid (And.intro hlt.1 (And.intro hlt.2.1 hws))
  clear hx hy hNx
  by_cases h1 : eNum mostS f = 0
  · have C1 := Lib.hid (num_yes e E N mostS f w h h1)
    have hk := eNum_le13 h1
    obtain ⟨K, hK⟩ : ∃ K, K = numV f := ⟨_, rfl⟩
    obtain ⟨f1, hf1⟩ : ∃ g, g = numR f := ⟨_, rfl⟩
    unfold mostS at hk C1
    rw [← hK, ← hf1] at C1
    rw [← hK] at hk
    have HK := Lib.hid hK
    have HF1 := Lib.hid hf1
    have H1 := Lib.hid h1
    clear hK hf1 h1 h
    by_cases h2 : eNum mostS f1 = 0
    · have hk2 := eNum_le13 h2
      unfold mostS at hk2
      obtain ⟨K2, hK2⟩ : ∃ K, K = numV f1 := ⟨_, rfl⟩
      obtain ⟨f2, hf2⟩ : ∃ g, g = numR f1 := ⟨_, rfl⟩
      rw [← hK2] at hk2
      have HK2 := Lib.hid hK2
      have HF2 := Lib.hid hf2
      have H2 := Lib.hid h2
      clear hK2 hf2 h2
      by_cases h3 : eText (m : Int) f2 = 0
      · have HFE := Lib.hid (show fldE f = 0 by
          unfold fldE
          rw [← HF1.out, ← HF2.out, ← hm, H1.out, H2.out, h3]
          simp)
        have HPO : FrPost e E x N f w = fun r w' => (r = .returned (.tuple #[]) ∧ (∃ A c, RBx w' x K K2 (.slice A (numV f2) c) ∧ SlN w' (fun i => i < w.heap.size) A (((numR f2).take (numV f2)).map bv) ∧ (A = none → c = 0) ∧ numV f2 ≤ c) ∧ Eye0 w' e E N ((numR f2).drop (numV f2)) ∧ Turn (fun i => i = e ∨ i = x) w w') := by
          unfold FrPost fldT fldK
          funext r w'
          rw [HFE.out, ← HF1.out, ← HF2.out, ← HK.out, ← HK2.out]
          simp
        rw [HPO]
        clear HPO
        obtain ⟨K3, hK3⟩ : ∃ K, K = numV f2 := ⟨_, rfl⟩
        obtain ⟨f3, hf3⟩ : ∃ g, g = numR f2 := ⟨_, rfl⟩
        have H3 := Lib.hid h3
        have HM := Lib.hid hm
        have TX := Lib.hid (fun (w : World) (h : Eye0 w e E N f2) => text_yes e E N (m : Int) f2 w h h3 (by omega))
        rw [← hK3, ← hf3] at TX
        rw [← hK3, ← hf3]
        clear hK3 hf3 h3 hm HFE
        go_enter Tryd.func85, Tryd.ntmps85
        go_wp2_with (go_at_call 86; refine stop ?_)
        unfold Stop
        refine C1.out.mono ?_
        rintro r w1 ⟨rfl, he1, t1⟩
        have X1 := Lib.hid (HX.out.turn t1 hxe)
        have Y1 := Lib.hid (t1.cell HY.out hye)
        have E1 := Lib.hid he1
        have T1 := Lib.hid (t1.mono (S := fun i => i = e ∨ i = x) (fun _ _ h => .inl h))
        obtain ⟨c0, c1, c2, z0, z1, z2⟩ := X1.out.cells
        clear he1 t1 C1 HX HY HE
        go_wp2_with (go_at_call 86; refine stop ?_)
        unfold Stop
        obtain ⟨w2, hw2⟩ : ∃ w2, w2 = w1.setCell ⟨x, 0, none⟩ (.int .i64 (K : Int)) := ⟨_, rfl⟩
        rw [← hw2]
        have t2 : Turn (fun i => i = x) w1 w2 := by rw [hw2]; exact set_turn13 _ _ _ _
        have X2 := Lib.hid (show RBx w2 x K 0 (.slice none 0 0) by rw [hw2]; exact X1.out.set0 K)
        have Y2 := Lib.hid (t2.cell Y1.out hyx)
        have E2 := Lib.hid (E1.out.turn t2 (fun h => hxe h.symm) (fun h => hxE h.symm) (fun i h => by rw [h]; exact HNX.out))
        have T2 := Lib.hid (T1.out.trans t2 (fun _ _ h => .inr h))
        have C2 := Lib.hid (num_yes e E N mostS f1 w2 E2.out H2.out)
        unfold mostS at C2
        rw [← HK2.out, ← HF2.out] at C2
        clear hw2 t2 X1 Y1 E1 T1 c0 c1 c2 z0 z1 z2
        refine C2.out.mono ?_
        rintro r w3 ⟨rfl, he3, t3⟩
        have X3 := Lib.hid (X2.out.turn t3 hxe)
        have Y3 := Lib.hid (t3.cell Y2.out hye)
        have E3 := Lib.hid he3
        have T3 := Lib.hid (T2.out.trans t3 (fun _ _ h => .inl h))
        obtain ⟨c0, c1, c2, z0, z1, z2⟩ := X3.out.cells
        have cy : (w3.setCell ⟨x, 1, none⟩ (.int .i64 (K2 : Int))).cell? ⟨y, 0, none⟩ = some (.int .i64 (m : Int)) := (set_turn13 _ _ _ _).cell Y3.out hyx
        have CY := Lib.hid cy
        clear he3 t3 C2 X2 Y2 E2 T2 cy
        go_upto_region 2 with fail
        obtain ⟨w4, hw4⟩ : ∃ w4, w4 = w3.setCell ⟨x, 1, none⟩ (.int .i64 (K2 : Int)) := ⟨_, rfl⟩
        change Code.wp _ _ _ _ (w3.setCell ⟨x, 1, none⟩ (.int .i64 (K2 : Int)))
        have t4 : Turn (fun i => i = x) w3 w4 := by rw [hw4]; exact set_turn13 _ _ _ _
        have X4 := Lib.hid (show RBx w4 x K K2 (.slice none 0 0) by rw [hw4]; exact X3.out.set1 K2)
        have cy : w4.cell? ⟨y, 0, none⟩ = some (.int .i64 (m : Int)) := by rw [hw4]; exact CY.out
        have E4 := Lib.hid (E3.out.turn t4 (fun h => hxe h.symm) (fun h => hxE h.symm) (fun i h => by rw [h]; exact HNX.out))
        have T4 := Lib.hid (T3.out.trans t4 (fun _ _ h => .inr h))
        have C4 := Lib.hid (TX.out w4 E4.out)
        rw [← hw4]
        clear hw4 t4 X3 Y3 E3 T3 c0 c1 c2 z0 z1 z2 CY TX
        go_wp2_with (go_at_call 87; refine stop ?_)
        unfold Stop
        refine C4.out.mono ?_
        rintro r w5 ⟨u, rfl, o5, he5, t5⟩
        obtain ⟨A5, c5, rfl, -, -, k5, a5⟩ := own_sl o5
        have X5 := Lib.hid (X4.out.turn t5 hxe)
        have E5 := Lib.hid he5
        have T5 := Lib.hid (T4.out.trans t5 (fun _ _ h => .inl h))
        have S5 := Lib.hid (own_sln (N := fun i => i < w.heap.size ∨ i = x) o5 (fun i hi => by have := T4.out.size; have := HWS.out; omega))
        obtain ⟨c0, c1, c2, z0, z1, z2⟩ := X5.out.cells
        clear o5 he5 t5 C4 X4 E4 T4 cy
        go_wp2
        first | go_end0 | refine bodyPost_ret (results_none rfl _ _ _) rfl ?_
        have t6 := set_turn13 w5 x 2 (.slice A5 K3 c5)
        exact ⟨rfl, ⟨A5, c5, X5.out.set2 _, S5.out.turn t6 (fun i h => .inr h) (fun i _ h => .inl h), a5, k5⟩, E5.out.turn t6 (fun h => hxe h.symm) (fun h => hxE h.symm) (fun i h => by rw [h]; exact HNX.out), T5.out.trans t6 (fun _ _ h => .inr h)⟩
      · obtain ⟨k, hkk⟩ : ∃ k, k = eText (m : Int) f2 := ⟨_, rfl⟩
        have hk0 : k ≠ 0 := by rw [hkk]; assumption
        have HFE := Lib.hid (show fldE f = k by
          unfold fldE
          rw [← HF1.out, ← HF2.out, ← hm, H1.out, H2.out]
          simp [hkk])
        have HPO : FrPost e E x N f w = fun r w' => (r = pan E ∧ EyeX w' e E k ∧ Turn (fun i => i = e ∨ i = E ∨ i = x) w w') := by
          unfold FrPost
          funext r w'
          rw [HFE.out]
          simp [hk0]
        rw [HPO]
        clear HPO HFE
        have TX := Lib.hid (fun (w : World) (h : Eye0 w e E N f2) => text_no e E N (m : Int) f2 w h h3 (by omega) (by omega))
        rw [← hkk] at TX
        clear hkk h3 hm
        go_enter Tryd.func85, Tryd.ntmps85
        go_wp2_with (go_at_call 86; refine stop ?_)
        unfold Stop
        refine C1.out.mono ?_
        rintro r w1 ⟨rfl, he1, t1⟩
        have X1 := Lib.hid (HX.out.turn t1 hxe)
        have Y1 := Lib.hid (t1.cell HY.out hye)
        have E1 := Lib.hid he1
        have T1 := Lib.hid (t1.mono (S := fun i => i = e ∨ i = x) (fun _ _ h => .inl h))
        obtain ⟨c0, c1, c2, z0, z1, z2⟩ := X1.out.cells
        clear he1 t1 C1 HX HY HE
        go_wp2_with (go_at_call 86; refine stop ?_)
        unfold Stop
        obtain ⟨w2, hw2⟩ : ∃ w2, w2 = w1.setCell ⟨x, 0, none⟩ (.int .i64 (K : Int)) := ⟨_, rfl⟩
        rw [← hw2]
        have t2 : Turn (fun i => i = x) w1 w2 := by rw [hw2]; exact set_turn13 _ _ _ _
        have X2 := Lib.hid (show RBx w2 x K 0 (.slice none 0 0) by rw [hw2]; exact X1.out.set0 K)
        have Y2 := Lib.hid (t2.cell Y1.out hyx)
        have E2 := Lib.hid (E1.out.turn t2 (fun h => hxe h.symm) (fun h => hxE h.symm) (fun i h => by rw [h]; exact HNX.out))
        have T2 := Lib.hid (T1.out.trans t2 (fun _ _ h => .inr h))
        have C2 := Lib.hid (num_yes e E N mostS f1 w2 E2.out H2.out)
        unfold mostS at C2
        rw [← HK2.out, ← HF2.out] at C2
        clear hw2 t2 X1 Y1 E1 T1 c0 c1 c2 z0 z1 z2
        refine C2.out.mono ?_
        rintro r w3 ⟨rfl, he3, t3⟩
        have X3 := Lib.hid (X2.out.turn t3 hxe)
        have Y3 := Lib.hid (t3.cell Y2.out hye)
        have E3 := Lib.hid he3
        have T3 := Lib.hid (T2.out.trans t3 (fun _ _ h => .inl h))
        obtain ⟨c0, c1, c2, z0, z1, z2⟩ := X3.out.cells
        have cy : (w3.setCell ⟨x, 1, none⟩ (.int .i64 (K2 : Int))).cell? ⟨y, 0, none⟩ = some (.int .i64 (m : Int)) := (set_turn13 _ _ _ _).cell Y3.out hyx
        have CY := Lib.hid cy
        clear he3 t3 C2 X2 Y2 E2 T2 cy
        go_upto_region 2 with fail
        obtain ⟨w4, hw4⟩ : ∃ w4, w4 = w3.setCell ⟨x, 1, none⟩ (.int .i64 (K2 : Int)) := ⟨_, rfl⟩
        change Code.wp _ _ _ _ (w3.setCell ⟨x, 1, none⟩ (.int .i64 (K2 : Int)))
        have t4 : Turn (fun i => i = x) w3 w4 := by rw [hw4]; exact set_turn13 _ _ _ _
        have X4 := Lib.hid (show RBx w4 x K K2 (.slice none 0 0) by rw [hw4]; exact X3.out.set1 K2)
        have cy : w4.cell? ⟨y, 0, none⟩ = some (.int .i64 (m : Int)) := by rw [hw4]; exact CY.out
        have E4 := Lib.hid (E3.out.turn t4 (fun h => hxe h.symm) (fun h => hxE h.symm) (fun i h => by rw [h]; exact HNX.out))
        have T4 := Lib.hid (T3.out.trans t4 (fun _ _ h => .inr h))
        have C4 := Lib.hid (TX.out w4 E4.out)
        rw [← hw4]
        clear hw4 t4 X3 Y3 E3 T3 c0 c1 c2 z0 z1 z2 CY TX
        go_wp2_with (go_at_call 87; refine stop ?_)
        unfold Stop
        refine C4.out.mono ?_
        rintro r w5 ⟨rfl, he5, t5⟩
        have T5 := Lib.hid ((T4.out.mono (S := fun i => i = e ∨ i = E ∨ i = x) (fun i _ h => h.elim .inl (fun h => .inr (.inr h)))).trans t5 (fun i _ h => h.elim .inl (fun h => .inr (.inl h))))
        have E5 := Lib.hid he5
        clear he5 t5 C4 X4 E4 T4 cy
        dsimp only [pan]
        go_wp2_with fail
        exact ⟨rfl, rfl, E5.out, T5.out⟩
    · obtain ⟨k, hkk⟩ : ∃ k, k = eNum mostS f1 := ⟨_, rfl⟩
      have hk0 : k ≠ 0 := by rw [hkk]; assumption
      have HFE := Lib.hid (show fldE f = k by
        unfold fldE
        rw [← HF1.out, H1.out]
        simp [hkk, h2])
      have HPO : FrPost e E x N f w = fun r w' => (r = pan E ∧ EyeX w' e E k ∧ Turn (fun i => i = e ∨ i = E ∨ i = x) w w') := by
        unfold FrPost
        funext r w'
        rw [HFE.out]
        simp [hk0]
      rw [HPO]
      clear HPO HFE
      have HKK := Lib.hid hkk
      have H2 := Lib.hid h2
      clear hkk h2 hm
      go_enter Tryd.func85, Tryd.ntmps85
      go_wp2_with (go_at_call 86; refine stop ?_)
      unfold Stop
      refine C1.out.mono ?_
      rintro r w1 ⟨rfl, he1, t1⟩
      have X1 := Lib.hid (HX.out.turn t1 hxe)
      have Y1 := Lib.hid (t1.cell HY.out hye)
      have E1 := Lib.hid he1
      have T1 := Lib.hid (t1.mono (S := fun i => i = e ∨ i = x) (fun _ _ h => .inl h))
      obtain ⟨c0, c1, c2, z0, z1, z2⟩ := X1.out.cells
      clear he1 t1 C1 HX HY HE
      go_wp2_with (go_at_call 86; refine stop ?_)
      unfold Stop
      obtain ⟨w2, hw2⟩ : ∃ w2, w2 = w1.setCell ⟨x, 0, none⟩ (.int .i64 (K : Int)) := ⟨_, rfl⟩
      rw [← hw2]
      have t2 : Turn (fun i => i = x) w1 w2 := by rw [hw2]; exact set_turn13 _ _ _ _
      have X2 := Lib.hid (show RBx w2 x K 0 (.slice none 0 0) by rw [hw2]; exact X1.out.set0 K)
      have Y2 := Lib.hid (t2.cell Y1.out hyx)
      have E2 := Lib.hid (E1.out.turn t2 (fun h => hxe h.symm) (fun h => hxE h.symm) (fun i h => by rw [h]; exact HNX.out))
      have T2 := Lib.hid (T1.out.trans t2 (fun _ _ h => .inr h))
      have C2 := Lib.hid (num_no e E N mostS f1 w2 E2.out H2.out)
      rw [← HKK.out] at C2
      unfold mostS at C2
      clear hw2 t2 X1 Y1 E1 T1 c0 c1 c2 z0 z1 z2
      refine C2.out.mono ?_
      rintro r w3 ⟨rfl, he3, t3⟩
      have T3 := Lib.hid ((T2.out.mono (S := fun i => i = e ∨ i = E ∨ i = x) (fun i _ h => h.elim .inl (fun h => .inr (.inr h)))).trans t3 (fun i _ h => h.elim .inl (fun h => .inr (.inl h))))
      have E3 := Lib.hid he3
      clear he3 t3 C2 X2 Y2 E2 T2
      dsimp only [pan]
      go_wp2_with fail
      exact ⟨rfl, rfl, E3.out, T3.out⟩
  · obtain ⟨k, hkk⟩ : ∃ k, k = eNum mostS f := ⟨_, rfl⟩
    have hk0 : k ≠ 0 := by rw [hkk]; assumption
    have HFE := Lib.hid (show fldE f = k by
      unfold fldE
      simp [hkk, h1])
    have HPO : FrPost e E x N f w = fun r w' => (r = pan E ∧ EyeX w' e E k ∧ Turn (fun i => i = e ∨ i = E ∨ i = x) w w') := by
      unfold FrPost
      funext r w'
      rw [HFE.out]
      simp [hk0]
    rw [HPO]
    clear HPO HFE
    have C1 := num_no e E N mostS f w h h1
    rw [← hkk] at C1
    unfold mostS at C1
    have C1 := Lib.hid C1
    clear hkk h1 h
    go_enter Tryd.func85, Tryd.ntmps85
    go_wp2_with (go_at_call 86; refine stop ?_)
    unfold Stop
    refine C1.out.mono ?_
    rintro r w3 ⟨rfl, he3, t3⟩
    have T3 := Lib.hid (t3.mono (S := fun i => i = e ∨ i = E ∨ i = x) (fun i _ h => h.elim .inl (fun h => .inr (.inl h))))
    have E3 := Lib.hid he3
    clear he3 t3 C1 HX HY HE
    dsimp only [pan]
    go_wp2_with fail
    exact ⟨rfl, rfl, E3.out, T3.out⟩
end
end Go.Proofs.YtajdcekkmikbcaaDoor
