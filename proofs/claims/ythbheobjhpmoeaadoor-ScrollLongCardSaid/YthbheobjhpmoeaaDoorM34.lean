/- Merged: ScrollScans. -/
import Derived.Test.YthbheobjhpmoeaaDoorM32
import Derived.Test.YthbheobjhpmoeaaDoorM33
namespace Go.Proofs.YthbheobjhpmoeaaDoor
section
set_option linter.unusedVariables false
set_option linter.unusedSimpArgs false
open Go.RowKit
set_option maxRecDepth 100000
theorem chunks_snoc : ∀ (i : Nat) (l : List B8), chunks (i + 1) l = chunks i l ++ [(l.drop (64 * i)).take 64]
  | 0, l => by simp [chunks]
  | i + 1, l => by
    rw [chunks, chunks_snoc i (l.drop 64), chunks, List.drop_drop, List.cons_append, show 64 + 64 * i = 64 * (i + 1) by omega]
theorem putD_snoc : ∀ (l : List Sec) (d : Dr) (p : Nat) (s : Sec), putD d p (l ++ [s]) = (putD d p l).write ((p + l.length : Nat) : Int) s
  | [], d, p, s => rfl
  | x :: l, d, p, s => by
    rw [List.cons_append, putD, putD_snoc l, putD, List.length_cons, show p + 1 + l.length = p + (l.length + 1) by omega]
def drumOf (l : List B8) (i : Nat) : Dr := putD (Dr.new 20) 0 (chunks i l)
theorem drumOf_on (l : List B8) (hl : l.length = 1280) (i : Nat) (hi : i ≤ 20) : OnD (drumOf l i) 20 ∧ (drumOf l i).W.length = i := by
  have h1 := chunks_len i l
  have h2 := chunks_sec i l (by omega)
  refine ⟨(putD_on _ _ 0 (.new 20) (by omega) h2).1, ?_⟩
  have h3 := putD_W (n := 20) (chunks i l) (Dr.new 20) 0 (.new 20) (by omega) h2
  unfold drumOf
  rw [h3, h1]
  simp [Dr.new]
theorem drumOf_next (l : List B8) (i : Nat) : drumOf l (i + 1) = (drumOf l i).write (i : Int) ((l.drop (64 * i)).take 64) := by
  unfold drumOf
  rw [chunks_snoc, putD_snoc, chunks_len, Nat.zero_add]
theorem drumOf_cut (l : List B8) (hl : l.length = 1280) : cutD (drumOf l 20) 0 20 = l := by
  have h1 := chunks_len 20 l
  have h := putD_cut (chunks 20 l) (Dr.new 20) 0 (.new 20) (by omega) (chunks_sec 20 l (by omega))
  rw [h1, chunks_flat 20 l (by omega)] at h
  exact h
theorem drumOf_part (l : List B8) (hl : l.length = 1280) (a m : Nat) (h : a + m ≤ 20) : cutD (drumOf l 20) a m = (l.drop (64 * a)).take (64 * m) := by
  have on := (drumOf_on l hl 20 (by omega)).1
  have e := drumOf_cut l hl
  have h1 := cutD_split on.ok 0 20 a (by omega) (by omega)
  have h2 := cutD_take on.ok a (20 - a) m (by omega) (by omega)
  have hla := cutD_len on.ok 0 a (by omega)
  rw [e, Nat.zero_add] at h1
  have h3 := congrArg (List.drop (64 * a)) h1
  rw [List.drop_append_of_le_length (by omega), List.drop_of_length_le (l := cutD (drumOf l 20) 0 a) (by omega), List.nil_append] at h3
  rw [h3, h2]
theorem scanI_small {cut : List B8} (t : Int) (h : cut.length ≤ 1280) : (scanI cut t 0).1.length ≤ 1000000 ∧ ∀ x ∈ (scanI cut t 0).1, x.length ≤ maxLen := by
  unfold scanI
  split
  · exact ⟨by simp, fun x hx => by cases hx⟩
  · obtain ⟨-, b2, b3, -⟩ := scan_back t.toNat cut.length cut 0 (Nat.le_refl _)
    have h1 := scanN_le t.toNat cut.length cut 0 (Nat.le_refl _)
    have h2 := secsS_ge t.toNat (scanN cut t.toNat 0).1 0
    refine ⟨by omega, fun x hx => ?_⟩
    obtain ⟨i, hi, rfl⟩ := List.getElem_of_mem hx
    have h3 := (b3 i hi).1
    rw [fldS_length] at h3
    unfold maxLen
    omega
set_option maxHeartbeats 8000000 in
theorem scrollScans_of {SB : World → Nat → Nat → Scr → (Nat → Prop) → Prop} (S13 : SC SB) (A : Option Addr) (c : Nat) (b : List B8) (a m t : Int) (w : World) (hG : Glob w) (hb : Sl w w.heap.size A (b.map bv)) (hA : A = none → c = 0) (hc : b.length ≤ c)
    (ha : -9223372036854775808 ≤ a ∧ a ≤ 9223372036854775807) (hm : -9223372036854775808 ≤ m ∧ m ≤ 9223372036854775807) (ht : -9223372036854775808 ≤ t ∧ t ≤ 9223372036854775807) :
    Calls Tryd.prog 5 #[.slice A b.length c, .int .i64 a, .int .i64 m, .int .i64 t] w fun r w' => r = .returned (.bool true) ∧ Turn (fun _ => False) w w' := by
  have AW := Lib.hid (fun (w' : World) (t : Turn (fun _ => False) w w') => awake13 S13 w' (glob_turn hG t))
  by_cases hl : 1280 < b.length
  · have d1 : decide ((1280 : Int) < (b.length : Int)) = true := decide_eq_true (by omega)
    clear hb hA hc hl
    go_enter Tryd.func5, Tryd.ntmps5
    go_wp2_with (go_at_call 9; refine stop ?_)
    unfold Stop
    refine (AW.out w (Turn.refl _ _)).mono ?_
    rintro r w1 ⟨rfl, t1⟩
    have T1 := Lib.hid t1
    clear t1 AW
    go_wp2
    go_ret
    exact ⟨rfl, T1.out⟩
  have d1 : decide ((1280 : Int) < (b.length : Int)) = false := decide_eq_false (by omega)
  obtain ⟨lb, hlb⟩ : ∃ x, x = b.length := ⟨_, rfl⟩
  rw [← hlb] at d1 hl hc ⊢
  have HLB := Lib.hid hlb
  have HBS := Lib.hid hb
  have HA := Lib.hid hA
  have HN := Lib.hid (LD.new 20 (by omega) (by omega) w hG)
  have hl' : lb ≤ 1280 := by omega
  have hsub : (1280 : Int) - (lb : Int) = ((1280 - lb : Nat) : Int) := by omega
  have BND := Lib.hid (And.intro ha (And.intro hm ht))
  clear hb hA hl hlb ha hm ht
  go_enter Tryd.func5, Tryd.ntmps5
  go_wp2_with (go_at_call 13; refine stop ?_)
  unfold Stop
  refine HN.out.mono ?_
  rintro r w1 ⟨g, rfl, ld1, t1⟩
  have L1 := Lib.hid ld1
  have T1 := Lib.hid t1
  have S1 := t1.size
  clear HN ld1 t1
  go_upto_region 6 with fail
  go_step
  refine wpList_val rfl (.slice (some ⟨w1.heap.size, 0, none⟩) 0 0) (w1.alloc (.cells #[] 5)) (by kernel_rfl) ?_
  have ho2 := own_new w1 w1.heap.size 5 [] 0 rfl (Nat.le_refl _) (by unfold maxLen; omega)
  obtain ⟨w2, hw2⟩ : ∃ w2, w2 = w1.alloc (.cells #[] 5) := ⟨_, rfl⟩
  rw [← hw2]
  have t2 : Turn (fun _ => False) w1 w2 := by rw [hw2]; exact (Turn.refl _ _).alloc _
  have X2 := Lib.hid (show w2.ownsRow w1.heap.size 5 1 (.slice (some ⟨w1.heap.size, 0, none⟩) 0 0) 0 (([] : List B8).map bv) by rw [hw2]; exact ho2)
  have T2 := Lib.hid (T1.out.trans t2 (fun _ _ h => h))
  have L2 := Lib.hid (L1.out.quiet t2)
  have S2 := t2.size
  have P2 := Lib.hid ((Bts.of_sl HBS.out).below (turn_stp' T2.out))
  clear ho2 hw2 t2 L1 T1
  generalize Value.slice (some ⟨w1.heap.size, 0, none⟩) 0 0 = v2 at *
  go_wp2_with (at_builtin; refine stop ?_)
  unfold Stop
  refine wpList_app (o := ⟨some 36, _, _, _, _, _⟩) rfl _ _ rfl w1.heap.size _ [] b 0 lb rfl HLB.out.symm rfl X2.out A c rfl HA.out P2.out (by omega) (by omega) ?_
  rw [List.nil_append, Nat.zero_add]
  intro A3 c3 w3 a3 k3 ho3 hg3
  have hz := append_zeros w3 w1.heap.size A3 lb c3 (1280 - lb) b ho3 (by have := hg3.size; omega) (by omega)
  obtain ⟨A4, c4, w4, hrun, ho4, hg4, a4⟩ := hz
  have hx : ∀ k, v2.ownBlock = some k → w1.heap.size ≤ k := fun k hk => (X2.out.lt k hk).1
  have hy : ∀ k, (Value.slice A3 lb c3).ownBlock = some k → w1.heap.size ≤ k := fun k hk => (ho3.lt k hk).1
  have t3 : Turn (fun k => w1.heap.size ≤ k) w2 w4 := ((Turn.refl _ w2).grown hg3 (fun i _ e => hx i e.symm)).grown hg4 (fun i _ e => hy i e.symm)
  obtain ⟨All, hAll⟩ : ∃ L, L = b ++ zeros (1280 - lb) := ⟨_, rfl⟩
  rw [← hAll] at ho4
  have hal : All.length = 1280 := by rw [hAll, List.length_append, zeros_len, ← HLB.out]; omega
  rw [show lb + (1280 - lb) = 1280 by omega] at ho4 hrun
  have HRUN := Lib.hid hrun
  have HAL := Lib.hid hal
  have O4 := Lib.hid ho4
  have T4 := Lib.hid (T2.out.trans t3 (fun i hi h => by have h' : w1.heap.size ≤ i := h; omega))
  have L4 := Lib.hid (L2.out.keep t3 (fun k hk h => by have h1 := hk.2; have h2 : w1.heap.size ≤ k := h; omega) (fun k h => by have h2 : w1.heap.size ≤ k := h; have := hG.1; omega))
  have HAll := Lib.hid hAll
  have SL4 := Lib.hid (own_sln (N := Since w w1) ho4 (fun i h => h.2))
  have C4 := Lib.hid (And.intro a4 (own_cap ho4))
  clear ho3 hg3 ho4 hg4 hrun hx hy t3 a4 hAll hal X2 P2 L2 T2
  go_wp2_with (at_builtin; refine stop ?_)
  unfold Stop
  refine Lib.wpList_append_run _ rfl _ _ _ _ rfl _ _ rfl rfl _ _ HRUN.out ?_
  clear HRUN
  go_wp2
  go_loopw [11] (fun iv wr => ∃ (i : Nat) (D : Nat → Prop), i ≤ 20 ∧ iv = .int .i64 (i : Int) ∧ LD wr g 20 (drumOf All i) D ∧ SlN wr D A4 (All.map bv) ∧ (∀ k, D k → w.heap.size ≤ k) ∧ Turn (fun _ => False) w wr) (fun iv _ => (20 - intOf iv).toNat)
  case atStart => exact ⟨0, _, by omega, rfl, L4.out, SL4.out, fun k hk => hk.1, T4.out⟩
  case round =>
    obtain ⟨i, D, hi, rfl, ld, sl, hD, ht⟩ := hrel
    clear L4 SL4 T4
    obtain ⟨W5, eW5⟩ : ∃ W5, W5 = wr := ⟨_, rfl⟩
    subst eW5
    by_cases hi20 : i < 20
    · obtain ⟨on, hw⟩ := drumOf_on All HAL.out i hi
      have hc4 := C4.out.2
      obtain ⟨sec, hsec⟩ : ∃ s, s = (All.drop (64 * i)).take 64 := ⟨_, rfl⟩
      have hsl : sec.length = 64 := by rw [hsec, List.length_take, List.length_drop, HAL.out]; omega
      obtain ⟨A6, hA6⟩ : ∃ x, x = cutA A4 c4 (64 * i) := ⟨_, rfl⟩
      obtain ⟨c6, hc6⟩ : ∃ x, x = c4 - 64 * i := ⟨_, rfl⟩
      have SLI : ∀ w, (Instr.slice 22 (.slice A4 1280 c4) (some (.int .i64 (64 * (i : Int)))) (some (.int .i64 (64 * (i : Int) + 64))) none).run Tryd.prog w = .ok (.slice A6 64 c6) w := fun w => by
        rw [run_slice_lh (P := Tryd.prog) w 22 A4 1280 c4 (by kernel_rfl) .i64 .i64 (64 * (i : Int)) (64 * (i : Int) + 64) (by omega) (by omega) (by omega)]
        rw [show Tryd.prog.elem 22 = 5 by kernel_rfl, size_u8]
        simp only [Result.andThen, sliced, hA6, hc6, cutA, Nat.mul_one]
        rw [show ((64 : Int) * (i : Int)).toNat = 64 * i by omega, show ((64 : Int) * (i : Int) + 64).toNat - 64 * i = 64 by omega]
      have s6 : SlN W5 D A6 (sec.map bv) := by
        rw [hsec, hA6, List.map_take]
        exact (sln_cut sl c4 (64 * i) (by rw [HAL.out]; exact hc4)).take 64
      have hwE := on.writeE i hi20 sec hsl
      have W6 := ld.write (i : Int) A6 c6 sec s6 (by rw [hsl]; unfold maxLen; omega) (by omega)
      rw [hwE, hsl, show (drumOf All i).write (i : Int) sec = drumOf All (i + 1) by rw [drumOf_next, hsec]] at W6
      have W6 := Lib.hid W6
      have SLD := Lib.hid sl
      have HD := Lib.hid hD
      have HT := Lib.hid ht
      have hlt := Lib.hid ld.lt
      clear on hw hsec hsl hA6 hc6 s6 hwE sl hD ht ld
      go_wp2_with (go_at_call 14; refine stop ?_)
      unfold Stop
      refine W6.out.mono ?_
      rintro r w7 ⟨rfl, ld7, t7⟩
      have L7 := Lib.hid ld7
      have SL7 := Lib.hid (show SlN w7 (Dn D W5 w7) A4 (All.map bv) from SLD.out.turn t7 (fun _ h => h) (fun k hk h => h.elim (fun h => h) (fun h => by have := h.1; omega)))
      have HD7 := Lib.hid (show ∀ k, Dn D W5 w7 k → w.heap.size ≤ k from fun k hk => hk.elim (HD.out k) (fun h => by have := h.1; have := HT.out.size; omega))
      have T7 := Lib.hid (HT.out.trans t7 (fun k hk h => by have := HD.out k h; omega))
      clear W6 SLD HD HT hlt ld7 t7
      go_wp2
      go_roundw
      case rel => exact ⟨i + 1, _, by omega, by go_num, L7.out, SL7.out, HD7.out, T7.out⟩
      case measure => simp [intOf]; omega
    · obtain rfl : i = 20 := by omega
      obtain ⟨d, hd⟩ : ∃ d, d = drumOf All 20 := ⟨_, rfl⟩
      have on := (drumOf_on All HAL.out 20 (Nat.le_refl _)).1
      have hcut := drumOf_part All HAL.out
      rw [← hd] at ld on hcut
      have hd20 : decide (((20 : Nat) : Int) < 20) = false := by decide
      clear hi20 hi hd
      by_cases cc1 : (0 : Int) ≤ a
      rotate_left 1
      · clear hd20
        have hin : ¬ inS 20 a m := by unfold inS; omega
        have e1 : decide ((0 : Int) ≤ a) = false := decide_eq_false cc1
        have q1 : scanE 20 d a m t = 1 := by unfold scanE; rw [if_pos (.inr (.inr hin))]
        have q2 : scanV 20 d a m t = ([], 0) := by unfold scanV; rw [q1, if_pos (by decide)]
        have q3 : peekV 20 d a m = none := by unfold peekV; rw [if_pos (.inl hin)]
        have N6 := S13.scan W5 g 20 d D a m t ld (by omega) (by first | omega | (have := BND.out; omega))
        rw [q1, q2] at N6
        have N6 := Lib.hid N6
        have N7 := Lib.hid (fun (w6 : World) (t6 : Turn (fun _ => False) W5 w6) => S13.peek w6 g 20 d D a m (ld.quiet t6) (by omega) (by first | omega | (have := BND.out; omega)))
        rw [q3] at N7
        have HT := Lib.hid ht
        clear q1 q2 q3 hin ld sl hD ht on hcut
        go_wp2_with (go_at_call 15; refine stop ?_)
        unfold Stop
        refine N6.out.mono ?_
        rintro r w6 ⟨A6, c6, rfl, -, -, -, t6⟩
        have N7' := Lib.hid (N7.out w6 t6)
        have T6 := Lib.hid (HT.out.trans t6 (fun _ _ h => h))
        clear N6 N7 HT t6
        go_wp2_with (go_at_call 16; refine stop ?_)
        unfold Stop
        refine N7'.out.mono ?_
        rintro r w7 ⟨rfl, t7⟩
        have T7 := Lib.hid (T6.out.trans t7 (fun _ _ h => h))
        clear N7' T6 t7
        go_wp2_with (go_at_call 9; refine stop ?_)
        unfold Stop
        refine (AW.out w7 T7.out).mono ?_
        rintro r w8 ⟨rfl, t8⟩
        have T8 := Lib.hid (T7.out.trans t8 (fun _ _ h => h))
        clear AW T7 t8
        go_wp2
        go_ret
        exact ⟨rfl, T8.out⟩
      by_cases cc2 : (0 : Int) ≤ m
      rotate_left 1
      · clear hd20
        have hin : ¬ inS 20 a m := by unfold inS; omega
        have e1 : decide ((0 : Int) ≤ a) = true := decide_eq_true cc1
        have e2 : decide ((0 : Int) ≤ m) = false := decide_eq_false cc2
        have q1 : scanE 20 d a m t = 1 := by unfold scanE; rw [if_pos (.inr (.inr hin))]
        have q2 : scanV 20 d a m t = ([], 0) := by unfold scanV; rw [q1, if_pos (by decide)]
        have q3 : peekV 20 d a m = none := by unfold peekV; rw [if_pos (.inl hin)]
        have N6 := S13.scan W5 g 20 d D a m t ld (by omega) (by first | omega | (have := BND.out; omega))
        rw [q1, q2] at N6
        have N6 := Lib.hid N6
        have N7 := Lib.hid (fun (w6 : World) (t6 : Turn (fun _ => False) W5 w6) => S13.peek w6 g 20 d D a m (ld.quiet t6) (by omega) (by first | omega | (have := BND.out; omega)))
        rw [q3] at N7
        have HT := Lib.hid ht
        clear q1 q2 q3 hin ld sl hD ht on hcut
        go_wp2_with (go_at_call 15; refine stop ?_)
        unfold Stop
        refine N6.out.mono ?_
        rintro r w6 ⟨A6, c6, rfl, -, -, -, t6⟩
        have N7' := Lib.hid (N7.out w6 t6)
        have T6 := Lib.hid (HT.out.trans t6 (fun _ _ h => h))
        clear N6 N7 HT t6
        go_wp2_with (go_at_call 16; refine stop ?_)
        unfold Stop
        refine N7'.out.mono ?_
        rintro r w7 ⟨rfl, t7⟩
        have T7 := Lib.hid (T6.out.trans t7 (fun _ _ h => h))
        clear N7' T6 t7
        go_wp2_with (go_at_call 9; refine stop ?_)
        unfold Stop
        refine (AW.out w7 T7.out).mono ?_
        rintro r w8 ⟨rfl, t8⟩
        have T8 := Lib.hid (T7.out.trans t8 (fun _ _ h => h))
        clear AW T7 t8
        go_wp2
        go_ret
        exact ⟨rfl, T8.out⟩
      by_cases cc3 : a ≤ (20 : Int)
      rotate_left 1
      · clear hd20
        have hin : ¬ inS 20 a m := by unfold inS; omega
        have e1 : decide ((0 : Int) ≤ a) = true := decide_eq_true cc1
        have e2 : decide ((0 : Int) ≤ m) = true := decide_eq_true cc2
        have e3 : decide (a ≤ (20 : Int)) = false := decide_eq_false cc3
        have q1 : scanE 20 d a m t = 1 := by unfold scanE; rw [if_pos (.inr (.inr hin))]
        have q2 : scanV 20 d a m t = ([], 0) := by unfold scanV; rw [q1, if_pos (by decide)]
        have q3 : peekV 20 d a m = none := by unfold peekV; rw [if_pos (.inl hin)]
        have N6 := S13.scan W5 g 20 d D a m t ld (by omega) (by first | omega | (have := BND.out; omega))
        rw [q1, q2] at N6
        have N6 := Lib.hid N6
        have N7 := Lib.hid (fun (w6 : World) (t6 : Turn (fun _ => False) W5 w6) => S13.peek w6 g 20 d D a m (ld.quiet t6) (by omega) (by first | omega | (have := BND.out; omega)))
        rw [q3] at N7
        have HT := Lib.hid ht
        clear q1 q2 q3 hin ld sl hD ht on hcut
        go_wp2_with (go_at_call 15; refine stop ?_)
        unfold Stop
        refine N6.out.mono ?_
        rintro r w6 ⟨A6, c6, rfl, -, -, -, t6⟩
        have N7' := Lib.hid (N7.out w6 t6)
        have T6 := Lib.hid (HT.out.trans t6 (fun _ _ h => h))
        clear N6 N7 HT t6
        go_wp2_with (go_at_call 16; refine stop ?_)
        unfold Stop
        refine N7'.out.mono ?_
        rintro r w7 ⟨rfl, t7⟩
        have T7 := Lib.hid (T6.out.trans t7 (fun _ _ h => h))
        clear N7' T6 t7
        go_wp2_with (go_at_call 9; refine stop ?_)
        unfold Stop
        refine (AW.out w7 T7.out).mono ?_
        rintro r w8 ⟨rfl, t8⟩
        have T8 := Lib.hid (T7.out.trans t8 (fun _ _ h => h))
        clear AW T7 t8
        go_wp2
        go_ret
        exact ⟨rfl, T8.out⟩
      by_cases cc4 : m ≤ (20 : Int) - a
      rotate_left 1
      · clear hd20
        have hin : ¬ inS 20 a m := by unfold inS; omega
        have e1 : decide ((0 : Int) ≤ a) = true := decide_eq_true cc1
        have e2 : decide ((0 : Int) ≤ m) = true := decide_eq_true cc2
        have e3 : decide (a ≤ (20 : Int)) = true := decide_eq_true cc3
        have e4 : decide (m ≤ (20 : Int) - a) = false := decide_eq_false cc4
        have q1 : scanE 20 d a m t = 1 := by unfold scanE; rw [if_pos (.inr (.inr hin))]
        have q2 : scanV 20 d a m t = ([], 0) := by unfold scanV; rw [q1, if_pos (by decide)]
        have q3 : peekV 20 d a m = none := by unfold peekV; rw [if_pos (.inl hin)]
        have N6 := S13.scan W5 g 20 d D a m t ld (by omega) (by first | omega | (have := BND.out; omega))
        rw [q1, q2] at N6
        have N6 := Lib.hid N6
        have N7 := Lib.hid (fun (w6 : World) (t6 : Turn (fun _ => False) W5 w6) => S13.peek w6 g 20 d D a m (ld.quiet t6) (by omega) (by first | omega | (have := BND.out; omega)))
        rw [q3] at N7
        have HT := Lib.hid ht
        clear q1 q2 q3 hin ld sl hD ht on hcut
        go_wp2_with (go_at_call 15; refine stop ?_)
        unfold Stop
        refine N6.out.mono ?_
        rintro r w6 ⟨A6, c6, rfl, -, -, -, t6⟩
        have N7' := Lib.hid (N7.out w6 t6)
        have T6 := Lib.hid (HT.out.trans t6 (fun _ _ h => h))
        clear N6 N7 HT t6
        go_wp2_with (go_at_call 16; refine stop ?_)
        unfold Stop
        refine N7'.out.mono ?_
        rintro r w7 ⟨rfl, t7⟩
        have T7 := Lib.hid (T6.out.trans t7 (fun _ _ h => h))
        clear N7' T6 t7
        go_wp2_with (go_at_call 9; refine stop ?_)
        unfold Stop
        refine (AW.out w7 T7.out).mono ?_
        rintro r w8 ⟨rfl, t8⟩
        have T8 := Lib.hid (T7.out.trans t8 (fun _ _ h => h))
        clear AW T7 t8
        go_wp2
        go_ret
        exact ⟨rfl, T8.out⟩
      clear hd20
      have hrz := zero_rc
      have KR := Lib.hid (show (Tryd.prog.info? 42).map (·.size) = some ZRc.size ∧ ZRc.all (·.oneCell') = true from ⟨rc_info, by simp [Value.oneCell']⟩)
      by_cases ct : t < 0
      · skip
        cases hrd : readS (cutD d a.toNat m.toNat) with
        | none =>
          obtain ⟨p, rfl⟩ : ∃ p : Nat, a = (p : Int) := ⟨a.toNat, by omega⟩
          obtain ⟨q, rfl⟩ : ∃ q : Nat, m = (q : Int) := ⟨m.toNat, by omega⟩
          have hpq : p + q ≤ 20 := by omega
          obtain ⟨cut, hct⟩ : ∃ x, x = cutD d p q := ⟨_, rfl⟩
          have hc2 : (All.drop (64 * p)).take (64 * q) = cut := by rw [hct]; exact (hcut p q hpq).symm
          have hcl : cut.length = 64 * q := by rw [hct]; exact cutD_len on.ok p q (by omega)
          rw [Int.toNat_natCast, Int.toNat_natCast, ← hct] at hrd
          have e1 : decide ((0 : Int) ≤ (p : Int)) = true := decide_eq_true cc1
          have e2 : decide ((0 : Int) ≤ (q : Int)) = true := decide_eq_true cc2
          have e3 : decide ((p : Int) ≤ (20 : Int)) = true := decide_eq_true cc3
          have e4 : decide ((q : Int) ≤ (20 : Int) - (p : Int)) = true := decide_eq_true cc4
          have f1 : decide ((0 : Int) ≤ t) = false := decide_eq_false (by omega)
          have q1 : scanE 20 d (p : Int) (q : Int) t = 1 := by unfold scanE; rw [if_pos (by unfold mostS; omega)]
          have q2 : scanV 20 d (p : Int) (q : Int) t = ([], 0) := by unfold scanV; rw [q1, if_pos (by decide)]
          have q3 : peekV 20 d (p : Int) (q : Int) = none := by unfold peekV; rw [if_neg (by unfold inS; rw [on.off]; simp; omega), Int.toNat_natCast, Int.toNat_natCast, ← hct, hrd]
          have N6 := S13.scan W5 g 20 d D (p : Int) (q : Int) t ld (by omega) (by first | omega | (have := BND.out; omega))
          rw [q1, q2] at N6
          have N6 := Lib.hid N6
          have N7 := Lib.hid (fun (w6 : World) (t6 : Turn (fun _ => False) W5 w6) => S13.peek w6 g 20 d D (p : Int) (q : Int) (ld.quiet t6) (by omega) (by first | omega | (have := BND.out; omega)))
          rw [q3] at N7
          have HT := Lib.hid ht
          have HLD := Lib.hid ld
          have HSL := Lib.hid sl
          have HD := Lib.hid hD
          have HCL := Lib.hid hcl
          have HC2 := Lib.hid hc2
          have HRD := Lib.hid hrd
          have HON := Lib.hid on
          have hc4 := C4.out.2
          obtain ⟨A8, hA8⟩ : ∃ x, x = cutA A4 c4 (64 * p) := ⟨_, rfl⟩
          obtain ⟨c8, hc8⟩ : ∃ x, x = c4 - 64 * p := ⟨_, rfl⟩
          have SLI : ∀ w, (Instr.slice 22 (.slice A4 1280 c4) (some (.int .i64 (64 * (p : Int)))) (some (.int .i64 (64 * ((p : Int) + (q : Int))))) none).run Tryd.prog w = .ok (.slice A8 (64 * q) c8) w := fun w => by
            rw [run_slice_lh (P := Tryd.prog) w 22 A4 1280 c4 (by kernel_rfl) .i64 .i64 (64 * (p : Int)) (64 * ((p : Int) + (q : Int))) (by omega) (by omega) (by omega)]
            rw [show Tryd.prog.elem 22 = 5 by kernel_rfl, size_u8]
            simp only [Result.andThen, sliced, hA8, hc8, cutA, Nat.mul_one]
            rw [show ((64 : Int) * (p : Int)).toNat = 64 * p by omega, show ((64 : Int) * ((p : Int) + (q : Int))).toNat - 64 * p = 64 * q by omega]
          have SC := Lib.hid (show ∀ (w7 : World) (N : Nat → Prop), SlN w7 N A4 (All.map bv) → SlN w7 N A8 (cut.map bv) from fun w7 N h => by
            rw [← HC2.out, hA8, List.map_take]
            exact (sln_cut h c4 (64 * p) (by rw [HAL.out]; exact hc4)).take (64 * q))
          have AC8 := Lib.hid (And.intro (show A8 = none → c8 = 0 by rw [hA8, hc8]; exact cut_none C4.out.1) (show 64 * q ≤ c8 by omega))
          clear q1 q2 q3 hcut ld sl hD ht on hcl hc2 hct hA8 hc8 hrd
          go_wp2_with (go_at_call 15; refine stop ?_)
          unfold Stop
          refine N6.out.mono ?_
          rintro r w6 ⟨A6, c6, rfl, l6, -, -, t6⟩
          have N7' := Lib.hid (N7.out w6 t6)
          have T6 := Lib.hid t6
          have L6 := Lib.hid l6
          have S56 := t6.size
          clear N6 N7 t6 l6
          go_wp2_with (go_at_call 16; refine stop ?_)
          unfold Stop
          refine N7'.out.mono ?_
          rintro r w7 ⟨rfl, t7⟩
          have T7 := Lib.hid (T6.out.trans t7 (fun _ _ h => h))
          have T67 := Lib.hid t7
          have HSF := Lib.hid (HSL.out.turn (N' := fun i => D i ∨ W5.heap.size ≤ i) (Turn.refl (fun _ => False) _) (fun _ h => h.elim) (fun i hi h => h.elim (fun h => h) (fun h => by omega)))
          have RD := Lib.hid (rread13_any (fun i => D i ∨ W5.heap.size ≤ i) A8 c8 cut w7 (fun i h => .inr (Nat.le_trans T7.out.size h)) (SC.out w7 _ (HSF.out.turn T7.out (fun _ h => h.elim) (fun i hi h => h))) AC8.out.1 (by rw [HCL.out]; exact AC8.out.2) (by rw [HCL.out]; omega))
          rw [HCL.out] at RD
          clear N7' t7 T6
          go_wp2_with (go_at_call 17; refine stop ?_)
          unfold Stop
          refine RD.out.mono ?_
          rintro r wa hp
          unfold RdPost at hp
          rw [HRD.out] at hp
          obtain ⟨rfl, ta⟩ := hp
          have HA9 := Lib.hid (show (wa.alloc (.cells ZRc 42)).heap[wa.heap.size]? = some (.cells ZRc 42 (0, 0)) from heap_alloc_new _ _)
          clear RD
          go_upto_region 21 with (refine wpList_store_row rfl _ _ _ rfl wa.heap.size ZRc rfl rfl 42 ZRc HA9.out KR.out.1 rfl KR.out.2 ?_)
          obtain ⟨wb, hw⟩ : ∃ w', w' = (wa.alloc (.cells ZRc 42)).setRow wa.heap.size ZRc := ⟨_, rfl⟩
          have tz : Turn (fun _ => False) wa wb := by rw [hw]; exact ((Turn.refl (fun _ => False) wa).alloc _).setRow _ _ (fun h => by omega)
          obtain ⟨Q, hQ⟩ : ∃ Q, Q = wa.heap.size := ⟨_, rfl⟩
          have HQR := Lib.hid (show wb.heap[Q]? = some (.cells ZRc 42 (0, 0)) from by rw [hw, hQ]; exact setRow_heap _ _ _ _ _ _ HA9.out)
          change Code.wp _ _ _ _ ((wa.alloc (.cells ZRc 42)).setRow wa.heap.size ZRc)
          rw [← hw, ← hQ]
          have Tb := Lib.hid ((T7.out.trans ta (fun _ _ h => h)).trans tz (fun _ _ h => h))
          have T6b := Lib.hid ((T67.out.trans ta (fun _ _ h => h)).trans tz (fun _ _ h => h))
          clear hw hQ HA9 tz ta T7
          obtain ⟨wc, hwc⟩ : ∃ wc, wc = wb := ⟨_, rfl⟩
          have Tc := Lib.hid (show Turn (fun _ => False) W5 wc by rw [hwc]; exact Tb.out)
          have T6c := Lib.hid (show Turn (fun _ => False) w6 wc by rw [hwc]; exact T6b.out)
          rw [← hwc] at HQR ⊢
          clear Tb T6b
          clear hwc
          have RS := rscan13_any D A8 c8 cut t wc (fun i h => Nat.lt_of_lt_of_le (HLD.out.lt i h) Tc.out.size) (SC.out wc D (HSL.out.turn Tc.out (fun _ h => h.elim) (fun _ _ h => h))) AC8.out.1 (by rw [HCL.out]; exact AC8.out.2) (by rw [HCL.out]; omega)
          rw [HCL.out] at RS
          generalize scanI cut t 0 = L at RS
          obtain ⟨nl, hnl⟩ : ∃ x, x = L.1.length := ⟨_, rfl⟩
          obtain ⟨ul, hul⟩ : ∃ x, x = L.2 := ⟨_, rfl⟩
          rw [← hnl, ← hul] at RS
          clear hnl hul
          have RS := Lib.hid RS
          have QE := Lib.hid (show scanE 20 d.fail 0 20 0 = 21 from by unfold scanE; rw [if_neg (by unfold inS mostS; omega)]; rfl)
          have QV := Lib.hid (show scanV 20 d.fail 0 20 0 = ([], 0) from by unfold scanV; rw [QE.out, if_pos (by decide)])
          go_wp2_with (go_at_call 18; refine stop ?_)
          unfold Stop
          refine RS.out.mono ?_
          rintro r wd ⟨Ad, cd, rfl, qd, had, hcd, td⟩
          have Td := Lib.hid (Tc.out.trans td (fun _ _ h => h))
          have T6d := Lib.hid (T6c.out.trans td (fun _ _ h => h))
          have QD := Lib.hid qd
          have FL := Lib.hid ((HLD.out.quiet Td.out).fail)
          clear RS Tc T6c qd td
          go_wp2_with (go_at_call 19; refine stop ?_)
          unfold Stop
          refine FL.out.mono ?_
          rintro r we ⟨⟨v, rfl⟩, lde, te⟩
          have N9 := S13.scan we g 20 d.fail D 0 20 0 lde (by omega) (by first | omega | (have := BND.out; omega))
          rw [QE.out, QV.out] at N9
          have N9 := Lib.hid N9
          have TE := Lib.hid te
          clear FL lde te QE QV
          go_wp2_with (go_at_call 15; refine stop ?_)
          unfold Stop
          refine N9.out.mono ?_
          rintro r wf ⟨Af, cf, rfl, -, -, -, tf⟩
          have Tf := Lib.hid (((HT.out.trans Td.out (fun _ _ h => h)).trans TE.out (fun i hi h => by have := HD.out i h; omega)).trans tf (fun _ _ h => h))
          obtain ⟨wg, hwg⟩ : ∃ wg, wg = wf := ⟨_, rfl⟩
          have Tg := Lib.hid (show Turn (fun _ => False) w wg by rw [hwg]; exact Tf.out)
          rw [← hwg]
          clear N9 tf TE Td T6d QD L6 Tf hwg
          go_wp2_with (go_at_call 9; refine stop ?_)
          unfold Stop
          refine (AW.out wg Tg.out).mono ?_
          rintro r wh ⟨rfl, th⟩
          have Th := Lib.hid (Tg.out.trans th (fun _ _ h => h))
          clear AW Tg th
          go_wp2
          go_ret
          exact ⟨rfl, Th.out⟩
        | some x =>
          have XBL := Lib.hid (show x.b.length ≤ 65524 from by have h := (read_back hrd).2.1; rw [fldS_length] at h; omega)
          by_cases hrn : x.n = 0
          rotate_left 1
          · skip
            obtain ⟨p, rfl⟩ : ∃ p : Nat, a = (p : Int) := ⟨a.toNat, by omega⟩
            obtain ⟨q, rfl⟩ : ∃ q : Nat, m = (q : Int) := ⟨m.toNat, by omega⟩
            have hpq : p + q ≤ 20 := by omega
            obtain ⟨cut, hct⟩ : ∃ x, x = cutD d p q := ⟨_, rfl⟩
            have hc2 : (All.drop (64 * p)).take (64 * q) = cut := by rw [hct]; exact (hcut p q hpq).symm
            have hcl : cut.length = 64 * q := by rw [hct]; exact cutD_len on.ok p q (by omega)
            rw [Int.toNat_natCast, Int.toNat_natCast, ← hct] at hrd
            have e1 : decide ((0 : Int) ≤ (p : Int)) = true := decide_eq_true cc1
            have e2 : decide ((0 : Int) ≤ (q : Int)) = true := decide_eq_true cc2
            have e3 : decide ((p : Int) ≤ (20 : Int)) = true := decide_eq_true cc3
            have e4 : decide ((q : Int) ≤ (20 : Int) - (p : Int)) = true := decide_eq_true cc4
            have f1 : decide ((0 : Int) ≤ t) = false := decide_eq_false (by omega)
            have q1 : scanE 20 d (p : Int) (q : Int) t = 1 := by unfold scanE; rw [if_pos (by unfold mostS; omega)]
            have q2 : scanV 20 d (p : Int) (q : Int) t = ([], 0) := by unfold scanV; rw [q1, if_pos (by decide)]
            have q3 : peekV 20 d (p : Int) (q : Int) = none := by unfold peekV; rw [if_neg (by unfold inS; rw [on.off]; simp; omega), Int.toNat_natCast, Int.toNat_natCast, ← hct, hrd]; exact if_neg hrn
            have N6 := S13.scan W5 g 20 d D (p : Int) (q : Int) t ld (by omega) (by first | omega | (have := BND.out; omega))
            rw [q1, q2] at N6
            have N6 := Lib.hid N6
            have N7 := Lib.hid (fun (w6 : World) (t6 : Turn (fun _ => False) W5 w6) => S13.peek w6 g 20 d D (p : Int) (q : Int) (ld.quiet t6) (by omega) (by first | omega | (have := BND.out; omega)))
            rw [q3] at N7
            have HT := Lib.hid ht
            have HLD := Lib.hid ld
            have HSL := Lib.hid sl
            have HD := Lib.hid hD
            have HCL := Lib.hid hcl
            have HC2 := Lib.hid hc2
            have HRD := Lib.hid hrd
            have HON := Lib.hid on
            have hc4 := C4.out.2
            obtain ⟨A8, hA8⟩ : ∃ x, x = cutA A4 c4 (64 * p) := ⟨_, rfl⟩
            obtain ⟨c8, hc8⟩ : ∃ x, x = c4 - 64 * p := ⟨_, rfl⟩
            have SLI : ∀ w, (Instr.slice 22 (.slice A4 1280 c4) (some (.int .i64 (64 * (p : Int)))) (some (.int .i64 (64 * ((p : Int) + (q : Int))))) none).run Tryd.prog w = .ok (.slice A8 (64 * q) c8) w := fun w => by
              rw [run_slice_lh (P := Tryd.prog) w 22 A4 1280 c4 (by kernel_rfl) .i64 .i64 (64 * (p : Int)) (64 * ((p : Int) + (q : Int))) (by omega) (by omega) (by omega)]
              rw [show Tryd.prog.elem 22 = 5 by kernel_rfl, size_u8]
              simp only [Result.andThen, sliced, hA8, hc8, cutA, Nat.mul_one]
              rw [show ((64 : Int) * (p : Int)).toNat = 64 * p by omega, show ((64 : Int) * ((p : Int) + (q : Int))).toNat - 64 * p = 64 * q by omega]
            have SC := Lib.hid (show ∀ (w7 : World) (N : Nat → Prop), SlN w7 N A4 (All.map bv) → SlN w7 N A8 (cut.map bv) from fun w7 N h => by
              rw [← HC2.out, hA8, List.map_take]
              exact (sln_cut h c4 (64 * p) (by rw [HAL.out]; exact hc4)).take (64 * q))
            have AC8 := Lib.hid (And.intro (show A8 = none → c8 = 0 by rw [hA8, hc8]; exact cut_none C4.out.1) (show 64 * q ≤ c8 by omega))
            clear q1 q2 q3 hcut ld sl hD ht on hcl hc2 hct hA8 hc8 hrd
            go_wp2_with (go_at_call 15; refine stop ?_)
            unfold Stop
            refine N6.out.mono ?_
            rintro r w6 ⟨A6, c6, rfl, l6, -, -, t6⟩
            have N7' := Lib.hid (N7.out w6 t6)
            have T6 := Lib.hid t6
            have L6 := Lib.hid l6
            have S56 := t6.size
            clear N6 N7 t6 l6
            go_wp2_with (go_at_call 16; refine stop ?_)
            unfold Stop
            refine N7'.out.mono ?_
            rintro r w7 ⟨rfl, t7⟩
            have T7 := Lib.hid (T6.out.trans t7 (fun _ _ h => h))
            have T67 := Lib.hid t7
            have HSF := Lib.hid (HSL.out.turn (N' := fun i => D i ∨ W5.heap.size ≤ i) (Turn.refl (fun _ => False) _) (fun _ h => h.elim) (fun i hi h => h.elim (fun h => h) (fun h => by omega)))
            have RD := Lib.hid (rread13_any (fun i => D i ∨ W5.heap.size ≤ i) A8 c8 cut w7 (fun i h => .inr (Nat.le_trans T7.out.size h)) (SC.out w7 _ (HSF.out.turn T7.out (fun _ h => h.elim) (fun i hi h => h))) AC8.out.1 (by rw [HCL.out]; exact AC8.out.2) (by rw [HCL.out]; omega))
            rw [HCL.out] at RD
            clear N7' t7 T6
            go_wp2_with (go_at_call 17; refine stop ?_)
            unfold Stop
            refine RD.out.mono ?_
            rintro r wa hp
            unfold RdPost at hp
            rw [HRD.out] at hp
            obtain ⟨⟨Ab, cb, rfl, sb, hab, hcb⟩, ta⟩ := hp
            obtain ⟨CR, hCR⟩ : ∃ CR : Array Value, CR = #[.int .i64 (x.t : Int), .int .i64 (x.n : Int), .int .i64 (x.size : Int), .slice Ab x.b.length cb] := ⟨_, rfl⟩
            have KC := Lib.hid (show (Tryd.prog.info? 42).map (·.size) = some CR.size ∧ ZRc.size = CR.size ∧ CR.all (·.oneCell') = true by rw [hCR]; exact ⟨rc_info, rfl, by simp [Value.oneCell']⟩)
            rw [← hCR]
            have HCR := Lib.hid hCR
            have SB := Lib.hid sb
            clear hCR sb
            have HA9 := Lib.hid (show (wa.alloc (.cells ZRc 42)).heap[wa.heap.size]? = some (.cells ZRc 42 (0, 0)) from heap_alloc_new _ _)
            clear RD
            go_upto_region 21 with (refine wpList_store_row rfl _ _ _ rfl wa.heap.size CR rfl rfl 42 ZRc HA9.out KC.out.1 KC.out.2.1 KC.out.2.2 ?_)
            obtain ⟨wb, hw⟩ : ∃ w', w' = (wa.alloc (.cells ZRc 42)).setRow wa.heap.size CR := ⟨_, rfl⟩
            have tz : Turn (fun _ => False) wa wb := by rw [hw]; exact ((Turn.refl (fun _ => False) wa).alloc _).setRow _ _ (fun h => by omega)
            obtain ⟨Q, hQ⟩ : ∃ Q, Q = wa.heap.size := ⟨_, rfl⟩
            have HQR := Lib.hid (show wb.heap[Q]? = some (.cells CR 42 (0, 0)) from by rw [hw, hQ]; exact setRow_heap _ _ _ _ _ _ HA9.out)
            change Code.wp _ _ _ _ ((wa.alloc (.cells ZRc 42)).setRow wa.heap.size CR)
            rw [← hw, ← hQ]
            have Tb := Lib.hid ((T7.out.trans ta (fun _ _ h => h)).trans tz (fun _ _ h => h))
            have T6b := Lib.hid ((T67.out.trans ta (fun _ _ h => h)).trans tz (fun _ _ h => h))
            clear hw hQ HA9 tz ta T7
            have k0 : wb.cell? ⟨Q, 0, none⟩ = some (.int .i64 (x.t : Int)) := by rw [cell_of_row _ _ _ _ _ _ HQR.out, HCR.out]; rfl
            have k1 : wb.cell? ⟨Q, 1, none⟩ = some (.int .i64 (x.n : Int)) := by rw [cell_of_row _ _ _ _ _ _ HQR.out, HCR.out]; rfl
            have k3 : wb.cell? ⟨Q, 3, none⟩ = some (.slice Ab x.b.length cb) := by rw [cell_of_row _ _ _ _ _ _ HQR.out, HCR.out]; rfl
            have kn : ((x.n : Int) == 0) = false := by rw [beq_eq_false_iff_ne]; omega
            obtain ⟨wc, hwc⟩ : ∃ wc, wc = wb := ⟨_, rfl⟩
            have Tc := Lib.hid (show Turn (fun _ => False) W5 wc by rw [hwc]; exact Tb.out)
            have T6c := Lib.hid (show Turn (fun _ => False) w6 wc by rw [hwc]; exact T6b.out)
            rw [← hwc] at k0 k1 k3 ⊢
            clear Tb T6b HQR
            clear hwc
            have RS := rscan13_any D A8 c8 cut t wc (fun i h => Nat.lt_of_lt_of_le (HLD.out.lt i h) Tc.out.size) (SC.out wc D (HSL.out.turn Tc.out (fun _ h => h.elim) (fun _ _ h => h))) AC8.out.1 (by rw [HCL.out]; exact AC8.out.2) (by rw [HCL.out]; omega)
            rw [HCL.out] at RS
            generalize scanI cut t 0 = L at RS
            obtain ⟨nl, hnl⟩ : ∃ x, x = L.1.length := ⟨_, rfl⟩
            obtain ⟨ul, hul⟩ : ∃ x, x = L.2 := ⟨_, rfl⟩
            rw [← hnl, ← hul] at RS
            clear hnl hul
            have RS := Lib.hid RS
            have QE := Lib.hid (show scanE 20 d.fail 0 20 0 = 21 from by unfold scanE; rw [if_neg (by unfold inS mostS; omega)]; rfl)
            have QV := Lib.hid (show scanV 20 d.fail 0 20 0 = ([], 0) from by unfold scanV; rw [QE.out, if_pos (by decide)])
            go_wp2_with (go_at_call 18; refine stop ?_)
            unfold Stop
            refine RS.out.mono ?_
            rintro r wd ⟨Ad, cd, rfl, qd, had, hcd, td⟩
            have Td := Lib.hid (Tc.out.trans td (fun _ _ h => h))
            have T6d := Lib.hid (T6c.out.trans td (fun _ _ h => h))
            have QD := Lib.hid qd
            have FL := Lib.hid ((HLD.out.quiet Td.out).fail)
            clear RS Tc T6c qd td
            go_wp2_with (go_at_call 19; refine stop ?_)
            unfold Stop
            refine FL.out.mono ?_
            rintro r we ⟨⟨v, rfl⟩, lde, te⟩
            have N9 := S13.scan we g 20 d.fail D 0 20 0 lde (by omega) (by first | omega | (have := BND.out; omega))
            rw [QE.out, QV.out] at N9
            have N9 := Lib.hid N9
            have TE := Lib.hid te
            clear FL lde te QE QV
            go_wp2_with (go_at_call 15; refine stop ?_)
            unfold Stop
            refine N9.out.mono ?_
            rintro r wf ⟨Af, cf, rfl, -, -, -, tf⟩
            have Tf := Lib.hid (((HT.out.trans Td.out (fun _ _ h => h)).trans TE.out (fun i hi h => by have := HD.out i h; omega)).trans tf (fun _ _ h => h))
            obtain ⟨wg, hwg⟩ : ∃ wg, wg = wf := ⟨_, rfl⟩
            have Tg := Lib.hid (show Turn (fun _ => False) w wg by rw [hwg]; exact Tf.out)
            rw [← hwg]
            clear N9 tf TE Td T6d QD L6 Tf hwg
            go_wp2_with (go_at_call 9; refine stop ?_)
            unfold Stop
            refine (AW.out wg Tg.out).mono ?_
            rintro r wh ⟨rfl, th⟩
            have Th := Lib.hid (Tg.out.trans th (fun _ _ h => h))
            clear AW Tg th
            go_wp2
            go_ret
            exact ⟨rfl, Th.out⟩
          obtain ⟨p, rfl⟩ : ∃ p : Nat, a = (p : Int) := ⟨a.toNat, by omega⟩
          obtain ⟨q, rfl⟩ : ∃ q : Nat, m = (q : Int) := ⟨m.toNat, by omega⟩
          have hpq : p + q ≤ 20 := by omega
          obtain ⟨cut, hct⟩ : ∃ x, x = cutD d p q := ⟨_, rfl⟩
          have hc2 : (All.drop (64 * p)).take (64 * q) = cut := by rw [hct]; exact (hcut p q hpq).symm
          have hcl : cut.length = 64 * q := by rw [hct]; exact cutD_len on.ok p q (by omega)
          rw [Int.toNat_natCast, Int.toNat_natCast, ← hct] at hrd
          have e1 : decide ((0 : Int) ≤ (p : Int)) = true := decide_eq_true cc1
          have e2 : decide ((0 : Int) ≤ (q : Int)) = true := decide_eq_true cc2
          have e3 : decide ((p : Int) ≤ (20 : Int)) = true := decide_eq_true cc3
          have e4 : decide ((q : Int) ≤ (20 : Int) - (p : Int)) = true := decide_eq_true cc4
          have f1 : decide ((0 : Int) ≤ t) = false := decide_eq_false (by omega)
          have q1 : scanE 20 d (p : Int) (q : Int) t = 1 := by unfold scanE; rw [if_pos (by unfold mostS; omega)]
          have q2 : scanV 20 d (p : Int) (q : Int) t = ([], 0) := by unfold scanV; rw [q1, if_pos (by decide)]
          have q3 : peekV 20 d (p : Int) (q : Int) = some x := by unfold peekV; rw [if_neg (by unfold inS; rw [on.off]; simp; omega), Int.toNat_natCast, Int.toNat_natCast, ← hct, hrd]; exact if_pos hrn
          have N6 := S13.scan W5 g 20 d D (p : Int) (q : Int) t ld (by omega) (by first | omega | (have := BND.out; omega))
          rw [q1, q2] at N6
          have N6 := Lib.hid N6
          have N7 := Lib.hid (fun (w6 : World) (t6 : Turn (fun _ => False) W5 w6) => S13.peek w6 g 20 d D (p : Int) (q : Int) (ld.quiet t6) (by omega) (by first | omega | (have := BND.out; omega)))
          rw [q3] at N7
          have HT := Lib.hid ht
          have HLD := Lib.hid ld
          have HSL := Lib.hid sl
          have HD := Lib.hid hD
          have HCL := Lib.hid hcl
          have HC2 := Lib.hid hc2
          have HRD := Lib.hid hrd
          have HON := Lib.hid on
          have hc4 := C4.out.2
          obtain ⟨A8, hA8⟩ : ∃ x, x = cutA A4 c4 (64 * p) := ⟨_, rfl⟩
          obtain ⟨c8, hc8⟩ : ∃ x, x = c4 - 64 * p := ⟨_, rfl⟩
          have SLI : ∀ w, (Instr.slice 22 (.slice A4 1280 c4) (some (.int .i64 (64 * (p : Int)))) (some (.int .i64 (64 * ((p : Int) + (q : Int))))) none).run Tryd.prog w = .ok (.slice A8 (64 * q) c8) w := fun w => by
            rw [run_slice_lh (P := Tryd.prog) w 22 A4 1280 c4 (by kernel_rfl) .i64 .i64 (64 * (p : Int)) (64 * ((p : Int) + (q : Int))) (by omega) (by omega) (by omega)]
            rw [show Tryd.prog.elem 22 = 5 by kernel_rfl, size_u8]
            simp only [Result.andThen, sliced, hA8, hc8, cutA, Nat.mul_one]
            rw [show ((64 : Int) * (p : Int)).toNat = 64 * p by omega, show ((64 : Int) * ((p : Int) + (q : Int))).toNat - 64 * p = 64 * q by omega]
          have SC := Lib.hid (show ∀ (w7 : World) (N : Nat → Prop), SlN w7 N A4 (All.map bv) → SlN w7 N A8 (cut.map bv) from fun w7 N h => by
            rw [← HC2.out, hA8, List.map_take]
            exact (sln_cut h c4 (64 * p) (by rw [HAL.out]; exact hc4)).take (64 * q))
          have AC8 := Lib.hid (And.intro (show A8 = none → c8 = 0 by rw [hA8, hc8]; exact cut_none C4.out.1) (show 64 * q ≤ c8 by omega))
          clear q1 q2 q3 hcut ld sl hD ht on hcl hc2 hct hA8 hc8 hrd
          go_wp2_with (go_at_call 15; refine stop ?_)
          unfold Stop
          refine N6.out.mono ?_
          rintro r w6 ⟨A6, c6, rfl, l6, -, -, t6⟩
          have N7' := Lib.hid (N7.out w6 t6)
          have T6 := Lib.hid t6
          have L6 := Lib.hid l6
          have S56 := t6.size
          clear N6 N7 t6 l6
          go_wp2_with (go_at_call 16; refine stop ?_)
          unfold Stop
          refine N7'.out.mono ?_
          rintro r w7 ⟨⟨A7, c7, rfl, s7, -, -⟩, t7⟩
          have SX7 := Lib.hid s7
          have T7 := Lib.hid (T6.out.trans t7 (fun _ _ h => h))
          have T67 := Lib.hid t7
          have HSF := Lib.hid (HSL.out.turn (N' := fun i => D i ∨ W5.heap.size ≤ i) (Turn.refl (fun _ => False) _) (fun _ h => h.elim) (fun i hi h => h.elim (fun h => h) (fun h => by omega)))
          have RD := Lib.hid (rread13_any (fun i => D i ∨ W5.heap.size ≤ i) A8 c8 cut w7 (fun i h => .inr (Nat.le_trans T7.out.size h)) (SC.out w7 _ (HSF.out.turn T7.out (fun _ h => h.elim) (fun i hi h => h))) AC8.out.1 (by rw [HCL.out]; exact AC8.out.2) (by rw [HCL.out]; omega))
          rw [HCL.out] at RD
          clear N7' t7 T6 s7
          go_wp2_with (go_at_call 17; refine stop ?_)
          unfold Stop
          refine RD.out.mono ?_
          rintro r wa hp
          unfold RdPost at hp
          rw [HRD.out] at hp
          obtain ⟨⟨Ab, cb, rfl, sb, hab, hcb⟩, ta⟩ := hp
          obtain ⟨CR, hCR⟩ : ∃ CR : Array Value, CR = #[.int .i64 (x.t : Int), .int .i64 (x.n : Int), .int .i64 (x.size : Int), .slice Ab x.b.length cb] := ⟨_, rfl⟩
          have KC := Lib.hid (show (Tryd.prog.info? 42).map (·.size) = some CR.size ∧ ZRc.size = CR.size ∧ CR.all (·.oneCell') = true by rw [hCR]; exact ⟨rc_info, rfl, by simp [Value.oneCell']⟩)
          rw [← hCR]
          have HCR := Lib.hid hCR
          have SB := Lib.hid sb
          clear hCR sb
          have HA9 := Lib.hid (show (wa.alloc (.cells ZRc 42)).heap[wa.heap.size]? = some (.cells ZRc 42 (0, 0)) from heap_alloc_new _ _)
          clear RD
          go_upto_region 21 with (refine wpList_store_row rfl _ _ _ rfl wa.heap.size CR rfl rfl 42 ZRc HA9.out KC.out.1 KC.out.2.1 KC.out.2.2 ?_)
          obtain ⟨wb, hw⟩ : ∃ w', w' = (wa.alloc (.cells ZRc 42)).setRow wa.heap.size CR := ⟨_, rfl⟩
          have tz : Turn (fun _ => False) wa wb := by rw [hw]; exact ((Turn.refl (fun _ => False) wa).alloc _).setRow _ _ (fun h => by omega)
          obtain ⟨Q, hQ⟩ : ∃ Q, Q = wa.heap.size := ⟨_, rfl⟩
          have HQR := Lib.hid (show wb.heap[Q]? = some (.cells CR 42 (0, 0)) from by rw [hw, hQ]; exact setRow_heap _ _ _ _ _ _ HA9.out)
          change Code.wp _ _ _ _ ((wa.alloc (.cells ZRc 42)).setRow wa.heap.size CR)
          rw [← hw, ← hQ]
          have Tb := Lib.hid ((T7.out.trans ta (fun _ _ h => h)).trans tz (fun _ _ h => h))
          have T6b := Lib.hid ((T67.out.trans ta (fun _ _ h => h)).trans tz (fun _ _ h => h))
          have SX := Lib.hid ((SX7.out.turn (N' := fun k => k < W5.heap.size) ta (fun _ h => h.elim) (fun i hi h => by have := Tb.out.size; show i < _; exact Nat.lt_of_lt_of_le h S56)).turn tz (fun _ h => h.elim) (fun _ _ h => h))
          have SBb := Lib.hid (SB.out.turn tz (fun _ h => h.elim) (fun _ _ h => h))
          clear hw hQ HA9 tz ta T7
          have k0 : wb.cell? ⟨Q, 0, none⟩ = some (.int .i64 (x.t : Int)) := by rw [cell_of_row _ _ _ _ _ _ HQR.out, HCR.out]; rfl
          have k1 : wb.cell? ⟨Q, 1, none⟩ = some (.int .i64 (x.n : Int)) := by rw [cell_of_row _ _ _ _ _ _ HQR.out, HCR.out]; rfl
          have k3 : wb.cell? ⟨Q, 3, none⟩ = some (.slice Ab x.b.length cb) := by rw [cell_of_row _ _ _ _ _ _ HQR.out, HCR.out]; rfl
          have kn : ((x.n : Int) == 0) = true := by rw [beq_iff_eq]; omega
          have kt : ((x.t : Int) != (x.t : Int)) = false := bne_self_eq_false _
          have BY := Lib.hid (rbytes_any A7 Ab c7 cb _ _ x.b x.b wb SX.out.sl SBb.out.sl (by have := XBL.out; unfold maxLen; omega) (by have := XBL.out; unfold maxLen; omega))
          rw [decide_eq_true (show x.b = x.b from rfl)] at BY
          go_wp2_with (go_at_call 12; refine stop ?_)
          unfold Stop
          refine BY.out.mono ?_
          rintro r wc ⟨rfl, mk, hwc⟩
          have tc : Turn (fun _ => False) wb wc := by rw [hwc]; exact of_turn (below_drewN (Below.refl _ _))
          have Tc := Lib.hid (Tb.out.trans tc (fun _ _ h => h))
          have T6c := Lib.hid (T6b.out.trans tc (fun _ _ h => h))
          clear BY hwc tc Tb T6b k0 k1 k3
          have RS := rscan13_any D A8 c8 cut t wc (fun i h => Nat.lt_of_lt_of_le (HLD.out.lt i h) Tc.out.size) (SC.out wc D (HSL.out.turn Tc.out (fun _ h => h.elim) (fun _ _ h => h))) AC8.out.1 (by rw [HCL.out]; exact AC8.out.2) (by rw [HCL.out]; omega)
          rw [HCL.out] at RS
          generalize scanI cut t 0 = L at RS
          obtain ⟨nl, hnl⟩ : ∃ x, x = L.1.length := ⟨_, rfl⟩
          obtain ⟨ul, hul⟩ : ∃ x, x = L.2 := ⟨_, rfl⟩
          rw [← hnl, ← hul] at RS
          clear hnl hul
          have RS := Lib.hid RS
          have QE := Lib.hid (show scanE 20 d.fail 0 20 0 = 21 from by unfold scanE; rw [if_neg (by unfold inS mostS; omega)]; rfl)
          have QV := Lib.hid (show scanV 20 d.fail 0 20 0 = ([], 0) from by unfold scanV; rw [QE.out, if_pos (by decide)])
          go_wp2_with (go_at_call 18; refine stop ?_)
          unfold Stop
          refine RS.out.mono ?_
          rintro r wd ⟨Ad, cd, rfl, qd, had, hcd, td⟩
          have Td := Lib.hid (Tc.out.trans td (fun _ _ h => h))
          have T6d := Lib.hid (T6c.out.trans td (fun _ _ h => h))
          have QD := Lib.hid qd
          have FL := Lib.hid ((HLD.out.quiet Td.out).fail)
          clear RS Tc T6c qd td
          go_wp2_with (go_at_call 19; refine stop ?_)
          unfold Stop
          refine FL.out.mono ?_
          rintro r we ⟨⟨v, rfl⟩, lde, te⟩
          have N9 := S13.scan we g 20 d.fail D 0 20 0 lde (by omega) (by first | omega | (have := BND.out; omega))
          rw [QE.out, QV.out] at N9
          have N9 := Lib.hid N9
          have TE := Lib.hid te
          clear FL lde te QE QV
          go_wp2_with (go_at_call 15; refine stop ?_)
          unfold Stop
          refine N9.out.mono ?_
          rintro r wf ⟨Af, cf, rfl, -, -, -, tf⟩
          have Tf := Lib.hid (((HT.out.trans Td.out (fun _ _ h => h)).trans TE.out (fun i hi h => by have := HD.out i h; omega)).trans tf (fun _ _ h => h))
          obtain ⟨wg, hwg⟩ : ∃ wg, wg = wf := ⟨_, rfl⟩
          have Tg := Lib.hid (show Turn (fun _ => False) w wg by rw [hwg]; exact Tf.out)
          rw [← hwg]
          clear N9 tf TE Td T6d QD L6 Tf hwg
          go_wp2_with (go_at_call 9; refine stop ?_)
          unfold Stop
          refine (AW.out wg Tg.out).mono ?_
          rintro r wh ⟨rfl, th⟩
          have Th := Lib.hid (Tg.out.trans th (fun _ _ h => h))
          clear AW Tg th
          go_wp2
          go_ret
          exact ⟨rfl, Th.out⟩
      by_cases ct2 : 1099511627776 < t
      · skip
        cases hrd : readS (cutD d a.toNat m.toNat) with
        | none =>
          obtain ⟨p, rfl⟩ : ∃ p : Nat, a = (p : Int) := ⟨a.toNat, by omega⟩
          obtain ⟨q, rfl⟩ : ∃ q : Nat, m = (q : Int) := ⟨m.toNat, by omega⟩
          have hpq : p + q ≤ 20 := by omega
          obtain ⟨cut, hct⟩ : ∃ x, x = cutD d p q := ⟨_, rfl⟩
          have hc2 : (All.drop (64 * p)).take (64 * q) = cut := by rw [hct]; exact (hcut p q hpq).symm
          have hcl : cut.length = 64 * q := by rw [hct]; exact cutD_len on.ok p q (by omega)
          rw [Int.toNat_natCast, Int.toNat_natCast, ← hct] at hrd
          have e1 : decide ((0 : Int) ≤ (p : Int)) = true := decide_eq_true cc1
          have e2 : decide ((0 : Int) ≤ (q : Int)) = true := decide_eq_true cc2
          have e3 : decide ((p : Int) ≤ (20 : Int)) = true := decide_eq_true cc3
          have e4 : decide ((q : Int) ≤ (20 : Int) - (p : Int)) = true := decide_eq_true cc4
          have f1 : decide ((0 : Int) ≤ t) = true := decide_eq_true (by omega)
          have f2 : decide (t ≤ (1099511627776 : Int)) = false := decide_eq_false (by omega)
          have q1 : scanE 20 d (p : Int) (q : Int) t = 1 := by unfold scanE; rw [if_pos (by unfold mostS; omega)]
          have q2 : scanV 20 d (p : Int) (q : Int) t = ([], 0) := by unfold scanV; rw [q1, if_pos (by decide)]
          have q3 : peekV 20 d (p : Int) (q : Int) = none := by unfold peekV; rw [if_neg (by unfold inS; rw [on.off]; simp; omega), Int.toNat_natCast, Int.toNat_natCast, ← hct, hrd]
          have N6 := S13.scan W5 g 20 d D (p : Int) (q : Int) t ld (by omega) (by first | omega | (have := BND.out; omega))
          rw [q1, q2] at N6
          have N6 := Lib.hid N6
          have N7 := Lib.hid (fun (w6 : World) (t6 : Turn (fun _ => False) W5 w6) => S13.peek w6 g 20 d D (p : Int) (q : Int) (ld.quiet t6) (by omega) (by first | omega | (have := BND.out; omega)))
          rw [q3] at N7
          have HT := Lib.hid ht
          have HLD := Lib.hid ld
          have HSL := Lib.hid sl
          have HD := Lib.hid hD
          have HCL := Lib.hid hcl
          have HC2 := Lib.hid hc2
          have HRD := Lib.hid hrd
          have HON := Lib.hid on
          have hc4 := C4.out.2
          obtain ⟨A8, hA8⟩ : ∃ x, x = cutA A4 c4 (64 * p) := ⟨_, rfl⟩
          obtain ⟨c8, hc8⟩ : ∃ x, x = c4 - 64 * p := ⟨_, rfl⟩
          have SLI : ∀ w, (Instr.slice 22 (.slice A4 1280 c4) (some (.int .i64 (64 * (p : Int)))) (some (.int .i64 (64 * ((p : Int) + (q : Int))))) none).run Tryd.prog w = .ok (.slice A8 (64 * q) c8) w := fun w => by
            rw [run_slice_lh (P := Tryd.prog) w 22 A4 1280 c4 (by kernel_rfl) .i64 .i64 (64 * (p : Int)) (64 * ((p : Int) + (q : Int))) (by omega) (by omega) (by omega)]
            rw [show Tryd.prog.elem 22 = 5 by kernel_rfl, size_u8]
            simp only [Result.andThen, sliced, hA8, hc8, cutA, Nat.mul_one]
            rw [show ((64 : Int) * (p : Int)).toNat = 64 * p by omega, show ((64 : Int) * ((p : Int) + (q : Int))).toNat - 64 * p = 64 * q by omega]
          have SC := Lib.hid (show ∀ (w7 : World) (N : Nat → Prop), SlN w7 N A4 (All.map bv) → SlN w7 N A8 (cut.map bv) from fun w7 N h => by
            rw [← HC2.out, hA8, List.map_take]
            exact (sln_cut h c4 (64 * p) (by rw [HAL.out]; exact hc4)).take (64 * q))
          have AC8 := Lib.hid (And.intro (show A8 = none → c8 = 0 by rw [hA8, hc8]; exact cut_none C4.out.1) (show 64 * q ≤ c8 by omega))
          clear q1 q2 q3 hcut ld sl hD ht on hcl hc2 hct hA8 hc8 hrd
          go_wp2_with (go_at_call 15; refine stop ?_)
          unfold Stop
          refine N6.out.mono ?_
          rintro r w6 ⟨A6, c6, rfl, l6, -, -, t6⟩
          have N7' := Lib.hid (N7.out w6 t6)
          have T6 := Lib.hid t6
          have L6 := Lib.hid l6
          have S56 := t6.size
          clear N6 N7 t6 l6
          go_wp2_with (go_at_call 16; refine stop ?_)
          unfold Stop
          refine N7'.out.mono ?_
          rintro r w7 ⟨rfl, t7⟩
          have T7 := Lib.hid (T6.out.trans t7 (fun _ _ h => h))
          have T67 := Lib.hid t7
          have HSF := Lib.hid (HSL.out.turn (N' := fun i => D i ∨ W5.heap.size ≤ i) (Turn.refl (fun _ => False) _) (fun _ h => h.elim) (fun i hi h => h.elim (fun h => h) (fun h => by omega)))
          have RD := Lib.hid (rread13_any (fun i => D i ∨ W5.heap.size ≤ i) A8 c8 cut w7 (fun i h => .inr (Nat.le_trans T7.out.size h)) (SC.out w7 _ (HSF.out.turn T7.out (fun _ h => h.elim) (fun i hi h => h))) AC8.out.1 (by rw [HCL.out]; exact AC8.out.2) (by rw [HCL.out]; omega))
          rw [HCL.out] at RD
          clear N7' t7 T6
          go_wp2_with (go_at_call 17; refine stop ?_)
          unfold Stop
          refine RD.out.mono ?_
          rintro r wa hp
          unfold RdPost at hp
          rw [HRD.out] at hp
          obtain ⟨rfl, ta⟩ := hp
          have HA9 := Lib.hid (show (wa.alloc (.cells ZRc 42)).heap[wa.heap.size]? = some (.cells ZRc 42 (0, 0)) from heap_alloc_new _ _)
          clear RD
          go_upto_region 21 with (refine wpList_store_row rfl _ _ _ rfl wa.heap.size ZRc rfl rfl 42 ZRc HA9.out KR.out.1 rfl KR.out.2 ?_)
          obtain ⟨wb, hw⟩ : ∃ w', w' = (wa.alloc (.cells ZRc 42)).setRow wa.heap.size ZRc := ⟨_, rfl⟩
          have tz : Turn (fun _ => False) wa wb := by rw [hw]; exact ((Turn.refl (fun _ => False) wa).alloc _).setRow _ _ (fun h => by omega)
          obtain ⟨Q, hQ⟩ : ∃ Q, Q = wa.heap.size := ⟨_, rfl⟩
          have HQR := Lib.hid (show wb.heap[Q]? = some (.cells ZRc 42 (0, 0)) from by rw [hw, hQ]; exact setRow_heap _ _ _ _ _ _ HA9.out)
          change Code.wp _ _ _ _ ((wa.alloc (.cells ZRc 42)).setRow wa.heap.size ZRc)
          rw [← hw, ← hQ]
          have Tb := Lib.hid ((T7.out.trans ta (fun _ _ h => h)).trans tz (fun _ _ h => h))
          have T6b := Lib.hid ((T67.out.trans ta (fun _ _ h => h)).trans tz (fun _ _ h => h))
          clear hw hQ HA9 tz ta T7
          obtain ⟨wc, hwc⟩ : ∃ wc, wc = wb := ⟨_, rfl⟩
          have Tc := Lib.hid (show Turn (fun _ => False) W5 wc by rw [hwc]; exact Tb.out)
          have T6c := Lib.hid (show Turn (fun _ => False) w6 wc by rw [hwc]; exact T6b.out)
          rw [← hwc] at HQR ⊢
          clear Tb T6b
          clear hwc
          have RS := rscan13_any D A8 c8 cut t wc (fun i h => Nat.lt_of_lt_of_le (HLD.out.lt i h) Tc.out.size) (SC.out wc D (HSL.out.turn Tc.out (fun _ h => h.elim) (fun _ _ h => h))) AC8.out.1 (by rw [HCL.out]; exact AC8.out.2) (by rw [HCL.out]; omega)
          rw [HCL.out] at RS
          generalize scanI cut t 0 = L at RS
          obtain ⟨nl, hnl⟩ : ∃ x, x = L.1.length := ⟨_, rfl⟩
          obtain ⟨ul, hul⟩ : ∃ x, x = L.2 := ⟨_, rfl⟩
          rw [← hnl, ← hul] at RS
          clear hnl hul
          have RS := Lib.hid RS
          have QE := Lib.hid (show scanE 20 d.fail 0 20 0 = 21 from by unfold scanE; rw [if_neg (by unfold inS mostS; omega)]; rfl)
          have QV := Lib.hid (show scanV 20 d.fail 0 20 0 = ([], 0) from by unfold scanV; rw [QE.out, if_pos (by decide)])
          go_wp2_with (go_at_call 18; refine stop ?_)
          unfold Stop
          refine RS.out.mono ?_
          rintro r wd ⟨Ad, cd, rfl, qd, had, hcd, td⟩
          have Td := Lib.hid (Tc.out.trans td (fun _ _ h => h))
          have T6d := Lib.hid (T6c.out.trans td (fun _ _ h => h))
          have QD := Lib.hid qd
          have FL := Lib.hid ((HLD.out.quiet Td.out).fail)
          clear RS Tc T6c qd td
          go_wp2_with (go_at_call 19; refine stop ?_)
          unfold Stop
          refine FL.out.mono ?_
          rintro r we ⟨⟨v, rfl⟩, lde, te⟩
          have N9 := S13.scan we g 20 d.fail D 0 20 0 lde (by omega) (by first | omega | (have := BND.out; omega))
          rw [QE.out, QV.out] at N9
          have N9 := Lib.hid N9
          have TE := Lib.hid te
          clear FL lde te QE QV
          go_wp2_with (go_at_call 15; refine stop ?_)
          unfold Stop
          refine N9.out.mono ?_
          rintro r wf ⟨Af, cf, rfl, -, -, -, tf⟩
          have Tf := Lib.hid (((HT.out.trans Td.out (fun _ _ h => h)).trans TE.out (fun i hi h => by have := HD.out i h; omega)).trans tf (fun _ _ h => h))
          obtain ⟨wg, hwg⟩ : ∃ wg, wg = wf := ⟨_, rfl⟩
          have Tg := Lib.hid (show Turn (fun _ => False) w wg by rw [hwg]; exact Tf.out)
          rw [← hwg]
          clear N9 tf TE Td T6d QD L6 Tf hwg
          go_wp2_with (go_at_call 9; refine stop ?_)
          unfold Stop
          refine (AW.out wg Tg.out).mono ?_
          rintro r wh ⟨rfl, th⟩
          have Th := Lib.hid (Tg.out.trans th (fun _ _ h => h))
          clear AW Tg th
          go_wp2
          go_ret
          exact ⟨rfl, Th.out⟩
        | some x =>
          have XBL := Lib.hid (show x.b.length ≤ 65524 from by have h := (read_back hrd).2.1; rw [fldS_length] at h; omega)
          by_cases hrn : x.n = 0
          rotate_left 1
          · skip
            obtain ⟨p, rfl⟩ : ∃ p : Nat, a = (p : Int) := ⟨a.toNat, by omega⟩
            obtain ⟨q, rfl⟩ : ∃ q : Nat, m = (q : Int) := ⟨m.toNat, by omega⟩
            have hpq : p + q ≤ 20 := by omega
            obtain ⟨cut, hct⟩ : ∃ x, x = cutD d p q := ⟨_, rfl⟩
            have hc2 : (All.drop (64 * p)).take (64 * q) = cut := by rw [hct]; exact (hcut p q hpq).symm
            have hcl : cut.length = 64 * q := by rw [hct]; exact cutD_len on.ok p q (by omega)
            rw [Int.toNat_natCast, Int.toNat_natCast, ← hct] at hrd
            have e1 : decide ((0 : Int) ≤ (p : Int)) = true := decide_eq_true cc1
            have e2 : decide ((0 : Int) ≤ (q : Int)) = true := decide_eq_true cc2
            have e3 : decide ((p : Int) ≤ (20 : Int)) = true := decide_eq_true cc3
            have e4 : decide ((q : Int) ≤ (20 : Int) - (p : Int)) = true := decide_eq_true cc4
            have f1 : decide ((0 : Int) ≤ t) = true := decide_eq_true (by omega)
            have f2 : decide (t ≤ (1099511627776 : Int)) = false := decide_eq_false (by omega)
            have q1 : scanE 20 d (p : Int) (q : Int) t = 1 := by unfold scanE; rw [if_pos (by unfold mostS; omega)]
            have q2 : scanV 20 d (p : Int) (q : Int) t = ([], 0) := by unfold scanV; rw [q1, if_pos (by decide)]
            have q3 : peekV 20 d (p : Int) (q : Int) = none := by unfold peekV; rw [if_neg (by unfold inS; rw [on.off]; simp; omega), Int.toNat_natCast, Int.toNat_natCast, ← hct, hrd]; exact if_neg hrn
            have N6 := S13.scan W5 g 20 d D (p : Int) (q : Int) t ld (by omega) (by first | omega | (have := BND.out; omega))
            rw [q1, q2] at N6
            have N6 := Lib.hid N6
            have N7 := Lib.hid (fun (w6 : World) (t6 : Turn (fun _ => False) W5 w6) => S13.peek w6 g 20 d D (p : Int) (q : Int) (ld.quiet t6) (by omega) (by first | omega | (have := BND.out; omega)))
            rw [q3] at N7
            have HT := Lib.hid ht
            have HLD := Lib.hid ld
            have HSL := Lib.hid sl
            have HD := Lib.hid hD
            have HCL := Lib.hid hcl
            have HC2 := Lib.hid hc2
            have HRD := Lib.hid hrd
            have HON := Lib.hid on
            have hc4 := C4.out.2
            obtain ⟨A8, hA8⟩ : ∃ x, x = cutA A4 c4 (64 * p) := ⟨_, rfl⟩
            obtain ⟨c8, hc8⟩ : ∃ x, x = c4 - 64 * p := ⟨_, rfl⟩
            have SLI : ∀ w, (Instr.slice 22 (.slice A4 1280 c4) (some (.int .i64 (64 * (p : Int)))) (some (.int .i64 (64 * ((p : Int) + (q : Int))))) none).run Tryd.prog w = .ok (.slice A8 (64 * q) c8) w := fun w => by
              rw [run_slice_lh (P := Tryd.prog) w 22 A4 1280 c4 (by kernel_rfl) .i64 .i64 (64 * (p : Int)) (64 * ((p : Int) + (q : Int))) (by omega) (by omega) (by omega)]
              rw [show Tryd.prog.elem 22 = 5 by kernel_rfl, size_u8]
              simp only [Result.andThen, sliced, hA8, hc8, cutA, Nat.mul_one]
              rw [show ((64 : Int) * (p : Int)).toNat = 64 * p by omega, show ((64 : Int) * ((p : Int) + (q : Int))).toNat - 64 * p = 64 * q by omega]
            have SC := Lib.hid (show ∀ (w7 : World) (N : Nat → Prop), SlN w7 N A4 (All.map bv) → SlN w7 N A8 (cut.map bv) from fun w7 N h => by
              rw [← HC2.out, hA8, List.map_take]
              exact (sln_cut h c4 (64 * p) (by rw [HAL.out]; exact hc4)).take (64 * q))
            have AC8 := Lib.hid (And.intro (show A8 = none → c8 = 0 by rw [hA8, hc8]; exact cut_none C4.out.1) (show 64 * q ≤ c8 by omega))
            clear q1 q2 q3 hcut ld sl hD ht on hcl hc2 hct hA8 hc8 hrd
            go_wp2_with (go_at_call 15; refine stop ?_)
            unfold Stop
            refine N6.out.mono ?_
            rintro r w6 ⟨A6, c6, rfl, l6, -, -, t6⟩
            have N7' := Lib.hid (N7.out w6 t6)
            have T6 := Lib.hid t6
            have L6 := Lib.hid l6
            have S56 := t6.size
            clear N6 N7 t6 l6
            go_wp2_with (go_at_call 16; refine stop ?_)
            unfold Stop
            refine N7'.out.mono ?_
            rintro r w7 ⟨rfl, t7⟩
            have T7 := Lib.hid (T6.out.trans t7 (fun _ _ h => h))
            have T67 := Lib.hid t7
            have HSF := Lib.hid (HSL.out.turn (N' := fun i => D i ∨ W5.heap.size ≤ i) (Turn.refl (fun _ => False) _) (fun _ h => h.elim) (fun i hi h => h.elim (fun h => h) (fun h => by omega)))
            have RD := Lib.hid (rread13_any (fun i => D i ∨ W5.heap.size ≤ i) A8 c8 cut w7 (fun i h => .inr (Nat.le_trans T7.out.size h)) (SC.out w7 _ (HSF.out.turn T7.out (fun _ h => h.elim) (fun i hi h => h))) AC8.out.1 (by rw [HCL.out]; exact AC8.out.2) (by rw [HCL.out]; omega))
            rw [HCL.out] at RD
            clear N7' t7 T6
            go_wp2_with (go_at_call 17; refine stop ?_)
            unfold Stop
            refine RD.out.mono ?_
            rintro r wa hp
            unfold RdPost at hp
            rw [HRD.out] at hp
            obtain ⟨⟨Ab, cb, rfl, sb, hab, hcb⟩, ta⟩ := hp
            obtain ⟨CR, hCR⟩ : ∃ CR : Array Value, CR = #[.int .i64 (x.t : Int), .int .i64 (x.n : Int), .int .i64 (x.size : Int), .slice Ab x.b.length cb] := ⟨_, rfl⟩
            have KC := Lib.hid (show (Tryd.prog.info? 42).map (·.size) = some CR.size ∧ ZRc.size = CR.size ∧ CR.all (·.oneCell') = true by rw [hCR]; exact ⟨rc_info, rfl, by simp [Value.oneCell']⟩)
            rw [← hCR]
            have HCR := Lib.hid hCR
            have SB := Lib.hid sb
            clear hCR sb
            have HA9 := Lib.hid (show (wa.alloc (.cells ZRc 42)).heap[wa.heap.size]? = some (.cells ZRc 42 (0, 0)) from heap_alloc_new _ _)
            clear RD
            go_upto_region 21 with (refine wpList_store_row rfl _ _ _ rfl wa.heap.size CR rfl rfl 42 ZRc HA9.out KC.out.1 KC.out.2.1 KC.out.2.2 ?_)
            obtain ⟨wb, hw⟩ : ∃ w', w' = (wa.alloc (.cells ZRc 42)).setRow wa.heap.size CR := ⟨_, rfl⟩
            have tz : Turn (fun _ => False) wa wb := by rw [hw]; exact ((Turn.refl (fun _ => False) wa).alloc _).setRow _ _ (fun h => by omega)
            obtain ⟨Q, hQ⟩ : ∃ Q, Q = wa.heap.size := ⟨_, rfl⟩
            have HQR := Lib.hid (show wb.heap[Q]? = some (.cells CR 42 (0, 0)) from by rw [hw, hQ]; exact setRow_heap _ _ _ _ _ _ HA9.out)
            change Code.wp _ _ _ _ ((wa.alloc (.cells ZRc 42)).setRow wa.heap.size CR)
            rw [← hw, ← hQ]
            have Tb := Lib.hid ((T7.out.trans ta (fun _ _ h => h)).trans tz (fun _ _ h => h))
            have T6b := Lib.hid ((T67.out.trans ta (fun _ _ h => h)).trans tz (fun _ _ h => h))
            clear hw hQ HA9 tz ta T7
            have k0 : wb.cell? ⟨Q, 0, none⟩ = some (.int .i64 (x.t : Int)) := by rw [cell_of_row _ _ _ _ _ _ HQR.out, HCR.out]; rfl
            have k1 : wb.cell? ⟨Q, 1, none⟩ = some (.int .i64 (x.n : Int)) := by rw [cell_of_row _ _ _ _ _ _ HQR.out, HCR.out]; rfl
            have k3 : wb.cell? ⟨Q, 3, none⟩ = some (.slice Ab x.b.length cb) := by rw [cell_of_row _ _ _ _ _ _ HQR.out, HCR.out]; rfl
            have kn : ((x.n : Int) == 0) = false := by rw [beq_eq_false_iff_ne]; omega
            obtain ⟨wc, hwc⟩ : ∃ wc, wc = wb := ⟨_, rfl⟩
            have Tc := Lib.hid (show Turn (fun _ => False) W5 wc by rw [hwc]; exact Tb.out)
            have T6c := Lib.hid (show Turn (fun _ => False) w6 wc by rw [hwc]; exact T6b.out)
            rw [← hwc] at k0 k1 k3 ⊢
            clear Tb T6b HQR
            clear hwc
            have RS := rscan13_any D A8 c8 cut t wc (fun i h => Nat.lt_of_lt_of_le (HLD.out.lt i h) Tc.out.size) (SC.out wc D (HSL.out.turn Tc.out (fun _ h => h.elim) (fun _ _ h => h))) AC8.out.1 (by rw [HCL.out]; exact AC8.out.2) (by rw [HCL.out]; omega)
            rw [HCL.out] at RS
            generalize scanI cut t 0 = L at RS
            obtain ⟨nl, hnl⟩ : ∃ x, x = L.1.length := ⟨_, rfl⟩
            obtain ⟨ul, hul⟩ : ∃ x, x = L.2 := ⟨_, rfl⟩
            rw [← hnl, ← hul] at RS
            clear hnl hul
            have RS := Lib.hid RS
            have QE := Lib.hid (show scanE 20 d.fail 0 20 0 = 21 from by unfold scanE; rw [if_neg (by unfold inS mostS; omega)]; rfl)
            have QV := Lib.hid (show scanV 20 d.fail 0 20 0 = ([], 0) from by unfold scanV; rw [QE.out, if_pos (by decide)])
            go_wp2_with (go_at_call 18; refine stop ?_)
            unfold Stop
            refine RS.out.mono ?_
            rintro r wd ⟨Ad, cd, rfl, qd, had, hcd, td⟩
            have Td := Lib.hid (Tc.out.trans td (fun _ _ h => h))
            have T6d := Lib.hid (T6c.out.trans td (fun _ _ h => h))
            have QD := Lib.hid qd
            have FL := Lib.hid ((HLD.out.quiet Td.out).fail)
            clear RS Tc T6c qd td
            go_wp2_with (go_at_call 19; refine stop ?_)
            unfold Stop
            refine FL.out.mono ?_
            rintro r we ⟨⟨v, rfl⟩, lde, te⟩
            have N9 := S13.scan we g 20 d.fail D 0 20 0 lde (by omega) (by first | omega | (have := BND.out; omega))
            rw [QE.out, QV.out] at N9
            have N9 := Lib.hid N9
            have TE := Lib.hid te
            clear FL lde te QE QV
            go_wp2_with (go_at_call 15; refine stop ?_)
            unfold Stop
            refine N9.out.mono ?_
            rintro r wf ⟨Af, cf, rfl, -, -, -, tf⟩
            have Tf := Lib.hid (((HT.out.trans Td.out (fun _ _ h => h)).trans TE.out (fun i hi h => by have := HD.out i h; omega)).trans tf (fun _ _ h => h))
            obtain ⟨wg, hwg⟩ : ∃ wg, wg = wf := ⟨_, rfl⟩
            have Tg := Lib.hid (show Turn (fun _ => False) w wg by rw [hwg]; exact Tf.out)
            rw [← hwg]
            clear N9 tf TE Td T6d QD L6 Tf hwg
            go_wp2_with (go_at_call 9; refine stop ?_)
            unfold Stop
            refine (AW.out wg Tg.out).mono ?_
            rintro r wh ⟨rfl, th⟩
            have Th := Lib.hid (Tg.out.trans th (fun _ _ h => h))
            clear AW Tg th
            go_wp2
            go_ret
            exact ⟨rfl, Th.out⟩
          obtain ⟨p, rfl⟩ : ∃ p : Nat, a = (p : Int) := ⟨a.toNat, by omega⟩
          obtain ⟨q, rfl⟩ : ∃ q : Nat, m = (q : Int) := ⟨m.toNat, by omega⟩
          have hpq : p + q ≤ 20 := by omega
          obtain ⟨cut, hct⟩ : ∃ x, x = cutD d p q := ⟨_, rfl⟩
          have hc2 : (All.drop (64 * p)).take (64 * q) = cut := by rw [hct]; exact (hcut p q hpq).symm
          have hcl : cut.length = 64 * q := by rw [hct]; exact cutD_len on.ok p q (by omega)
          rw [Int.toNat_natCast, Int.toNat_natCast, ← hct] at hrd
          have e1 : decide ((0 : Int) ≤ (p : Int)) = true := decide_eq_true cc1
          have e2 : decide ((0 : Int) ≤ (q : Int)) = true := decide_eq_true cc2
          have e3 : decide ((p : Int) ≤ (20 : Int)) = true := decide_eq_true cc3
          have e4 : decide ((q : Int) ≤ (20 : Int) - (p : Int)) = true := decide_eq_true cc4
          have f1 : decide ((0 : Int) ≤ t) = true := decide_eq_true (by omega)
          have f2 : decide (t ≤ (1099511627776 : Int)) = false := decide_eq_false (by omega)
          have q1 : scanE 20 d (p : Int) (q : Int) t = 1 := by unfold scanE; rw [if_pos (by unfold mostS; omega)]
          have q2 : scanV 20 d (p : Int) (q : Int) t = ([], 0) := by unfold scanV; rw [q1, if_pos (by decide)]
          have q3 : peekV 20 d (p : Int) (q : Int) = some x := by unfold peekV; rw [if_neg (by unfold inS; rw [on.off]; simp; omega), Int.toNat_natCast, Int.toNat_natCast, ← hct, hrd]; exact if_pos hrn
          have N6 := S13.scan W5 g 20 d D (p : Int) (q : Int) t ld (by omega) (by first | omega | (have := BND.out; omega))
          rw [q1, q2] at N6
          have N6 := Lib.hid N6
          have N7 := Lib.hid (fun (w6 : World) (t6 : Turn (fun _ => False) W5 w6) => S13.peek w6 g 20 d D (p : Int) (q : Int) (ld.quiet t6) (by omega) (by first | omega | (have := BND.out; omega)))
          rw [q3] at N7
          have HT := Lib.hid ht
          have HLD := Lib.hid ld
          have HSL := Lib.hid sl
          have HD := Lib.hid hD
          have HCL := Lib.hid hcl
          have HC2 := Lib.hid hc2
          have HRD := Lib.hid hrd
          have HON := Lib.hid on
          have hc4 := C4.out.2
          obtain ⟨A8, hA8⟩ : ∃ x, x = cutA A4 c4 (64 * p) := ⟨_, rfl⟩
          obtain ⟨c8, hc8⟩ : ∃ x, x = c4 - 64 * p := ⟨_, rfl⟩
          have SLI : ∀ w, (Instr.slice 22 (.slice A4 1280 c4) (some (.int .i64 (64 * (p : Int)))) (some (.int .i64 (64 * ((p : Int) + (q : Int))))) none).run Tryd.prog w = .ok (.slice A8 (64 * q) c8) w := fun w => by
            rw [run_slice_lh (P := Tryd.prog) w 22 A4 1280 c4 (by kernel_rfl) .i64 .i64 (64 * (p : Int)) (64 * ((p : Int) + (q : Int))) (by omega) (by omega) (by omega)]
            rw [show Tryd.prog.elem 22 = 5 by kernel_rfl, size_u8]
            simp only [Result.andThen, sliced, hA8, hc8, cutA, Nat.mul_one]
            rw [show ((64 : Int) * (p : Int)).toNat = 64 * p by omega, show ((64 : Int) * ((p : Int) + (q : Int))).toNat - 64 * p = 64 * q by omega]
          have SC := Lib.hid (show ∀ (w7 : World) (N : Nat → Prop), SlN w7 N A4 (All.map bv) → SlN w7 N A8 (cut.map bv) from fun w7 N h => by
            rw [← HC2.out, hA8, List.map_take]
            exact (sln_cut h c4 (64 * p) (by rw [HAL.out]; exact hc4)).take (64 * q))
          have AC8 := Lib.hid (And.intro (show A8 = none → c8 = 0 by rw [hA8, hc8]; exact cut_none C4.out.1) (show 64 * q ≤ c8 by omega))
          clear q1 q2 q3 hcut ld sl hD ht on hcl hc2 hct hA8 hc8 hrd
          go_wp2_with (go_at_call 15; refine stop ?_)
          unfold Stop
          refine N6.out.mono ?_
          rintro r w6 ⟨A6, c6, rfl, l6, -, -, t6⟩
          have N7' := Lib.hid (N7.out w6 t6)
          have T6 := Lib.hid t6
          have L6 := Lib.hid l6
          have S56 := t6.size
          clear N6 N7 t6 l6
          go_wp2_with (go_at_call 16; refine stop ?_)
          unfold Stop
          refine N7'.out.mono ?_
          rintro r w7 ⟨⟨A7, c7, rfl, s7, -, -⟩, t7⟩
          have SX7 := Lib.hid s7
          have T7 := Lib.hid (T6.out.trans t7 (fun _ _ h => h))
          have T67 := Lib.hid t7
          have HSF := Lib.hid (HSL.out.turn (N' := fun i => D i ∨ W5.heap.size ≤ i) (Turn.refl (fun _ => False) _) (fun _ h => h.elim) (fun i hi h => h.elim (fun h => h) (fun h => by omega)))
          have RD := Lib.hid (rread13_any (fun i => D i ∨ W5.heap.size ≤ i) A8 c8 cut w7 (fun i h => .inr (Nat.le_trans T7.out.size h)) (SC.out w7 _ (HSF.out.turn T7.out (fun _ h => h.elim) (fun i hi h => h))) AC8.out.1 (by rw [HCL.out]; exact AC8.out.2) (by rw [HCL.out]; omega))
          rw [HCL.out] at RD
          clear N7' t7 T6 s7
          go_wp2_with (go_at_call 17; refine stop ?_)
          unfold Stop
          refine RD.out.mono ?_
          rintro r wa hp
          unfold RdPost at hp
          rw [HRD.out] at hp
          obtain ⟨⟨Ab, cb, rfl, sb, hab, hcb⟩, ta⟩ := hp
          obtain ⟨CR, hCR⟩ : ∃ CR : Array Value, CR = #[.int .i64 (x.t : Int), .int .i64 (x.n : Int), .int .i64 (x.size : Int), .slice Ab x.b.length cb] := ⟨_, rfl⟩
          have KC := Lib.hid (show (Tryd.prog.info? 42).map (·.size) = some CR.size ∧ ZRc.size = CR.size ∧ CR.all (·.oneCell') = true by rw [hCR]; exact ⟨rc_info, rfl, by simp [Value.oneCell']⟩)
          rw [← hCR]
          have HCR := Lib.hid hCR
          have SB := Lib.hid sb
          clear hCR sb
          have HA9 := Lib.hid (show (wa.alloc (.cells ZRc 42)).heap[wa.heap.size]? = some (.cells ZRc 42 (0, 0)) from heap_alloc_new _ _)
          clear RD
          go_upto_region 21 with (refine wpList_store_row rfl _ _ _ rfl wa.heap.size CR rfl rfl 42 ZRc HA9.out KC.out.1 KC.out.2.1 KC.out.2.2 ?_)
          obtain ⟨wb, hw⟩ : ∃ w', w' = (wa.alloc (.cells ZRc 42)).setRow wa.heap.size CR := ⟨_, rfl⟩
          have tz : Turn (fun _ => False) wa wb := by rw [hw]; exact ((Turn.refl (fun _ => False) wa).alloc _).setRow _ _ (fun h => by omega)
          obtain ⟨Q, hQ⟩ : ∃ Q, Q = wa.heap.size := ⟨_, rfl⟩
          have HQR := Lib.hid (show wb.heap[Q]? = some (.cells CR 42 (0, 0)) from by rw [hw, hQ]; exact setRow_heap _ _ _ _ _ _ HA9.out)
          change Code.wp _ _ _ _ ((wa.alloc (.cells ZRc 42)).setRow wa.heap.size CR)
          rw [← hw, ← hQ]
          have Tb := Lib.hid ((T7.out.trans ta (fun _ _ h => h)).trans tz (fun _ _ h => h))
          have T6b := Lib.hid ((T67.out.trans ta (fun _ _ h => h)).trans tz (fun _ _ h => h))
          have SX := Lib.hid ((SX7.out.turn (N' := fun k => k < W5.heap.size) ta (fun _ h => h.elim) (fun i hi h => by have := Tb.out.size; show i < _; exact Nat.lt_of_lt_of_le h S56)).turn tz (fun _ h => h.elim) (fun _ _ h => h))
          have SBb := Lib.hid (SB.out.turn tz (fun _ h => h.elim) (fun _ _ h => h))
          clear hw hQ HA9 tz ta T7
          have k0 : wb.cell? ⟨Q, 0, none⟩ = some (.int .i64 (x.t : Int)) := by rw [cell_of_row _ _ _ _ _ _ HQR.out, HCR.out]; rfl
          have k1 : wb.cell? ⟨Q, 1, none⟩ = some (.int .i64 (x.n : Int)) := by rw [cell_of_row _ _ _ _ _ _ HQR.out, HCR.out]; rfl
          have k3 : wb.cell? ⟨Q, 3, none⟩ = some (.slice Ab x.b.length cb) := by rw [cell_of_row _ _ _ _ _ _ HQR.out, HCR.out]; rfl
          have kn : ((x.n : Int) == 0) = true := by rw [beq_iff_eq]; omega
          have kt : ((x.t : Int) != (x.t : Int)) = false := bne_self_eq_false _
          have BY := Lib.hid (rbytes_any A7 Ab c7 cb _ _ x.b x.b wb SX.out.sl SBb.out.sl (by have := XBL.out; unfold maxLen; omega) (by have := XBL.out; unfold maxLen; omega))
          rw [decide_eq_true (show x.b = x.b from rfl)] at BY
          go_wp2_with (go_at_call 12; refine stop ?_)
          unfold Stop
          refine BY.out.mono ?_
          rintro r wc ⟨rfl, mk, hwc⟩
          have tc : Turn (fun _ => False) wb wc := by rw [hwc]; exact of_turn (below_drewN (Below.refl _ _))
          have Tc := Lib.hid (Tb.out.trans tc (fun _ _ h => h))
          have T6c := Lib.hid (T6b.out.trans tc (fun _ _ h => h))
          clear BY hwc tc Tb T6b k0 k1 k3
          have RS := rscan13_any D A8 c8 cut t wc (fun i h => Nat.lt_of_lt_of_le (HLD.out.lt i h) Tc.out.size) (SC.out wc D (HSL.out.turn Tc.out (fun _ h => h.elim) (fun _ _ h => h))) AC8.out.1 (by rw [HCL.out]; exact AC8.out.2) (by rw [HCL.out]; omega)
          rw [HCL.out] at RS
          generalize scanI cut t 0 = L at RS
          obtain ⟨nl, hnl⟩ : ∃ x, x = L.1.length := ⟨_, rfl⟩
          obtain ⟨ul, hul⟩ : ∃ x, x = L.2 := ⟨_, rfl⟩
          rw [← hnl, ← hul] at RS
          clear hnl hul
          have RS := Lib.hid RS
          have QE := Lib.hid (show scanE 20 d.fail 0 20 0 = 21 from by unfold scanE; rw [if_neg (by unfold inS mostS; omega)]; rfl)
          have QV := Lib.hid (show scanV 20 d.fail 0 20 0 = ([], 0) from by unfold scanV; rw [QE.out, if_pos (by decide)])
          go_wp2_with (go_at_call 18; refine stop ?_)
          unfold Stop
          refine RS.out.mono ?_
          rintro r wd ⟨Ad, cd, rfl, qd, had, hcd, td⟩
          have Td := Lib.hid (Tc.out.trans td (fun _ _ h => h))
          have T6d := Lib.hid (T6c.out.trans td (fun _ _ h => h))
          have QD := Lib.hid qd
          have FL := Lib.hid ((HLD.out.quiet Td.out).fail)
          clear RS Tc T6c qd td
          go_wp2_with (go_at_call 19; refine stop ?_)
          unfold Stop
          refine FL.out.mono ?_
          rintro r we ⟨⟨v, rfl⟩, lde, te⟩
          have N9 := S13.scan we g 20 d.fail D 0 20 0 lde (by omega) (by first | omega | (have := BND.out; omega))
          rw [QE.out, QV.out] at N9
          have N9 := Lib.hid N9
          have TE := Lib.hid te
          clear FL lde te QE QV
          go_wp2_with (go_at_call 15; refine stop ?_)
          unfold Stop
          refine N9.out.mono ?_
          rintro r wf ⟨Af, cf, rfl, -, -, -, tf⟩
          have Tf := Lib.hid (((HT.out.trans Td.out (fun _ _ h => h)).trans TE.out (fun i hi h => by have := HD.out i h; omega)).trans tf (fun _ _ h => h))
          obtain ⟨wg, hwg⟩ : ∃ wg, wg = wf := ⟨_, rfl⟩
          have Tg := Lib.hid (show Turn (fun _ => False) w wg by rw [hwg]; exact Tf.out)
          rw [← hwg]
          clear N9 tf TE Td T6d QD L6 Tf hwg
          go_wp2_with (go_at_call 9; refine stop ?_)
          unfold Stop
          refine (AW.out wg Tg.out).mono ?_
          rintro r wh ⟨rfl, th⟩
          have Th := Lib.hid (Tg.out.trans th (fun _ _ h => h))
          clear AW Tg th
          go_wp2
          go_ret
          exact ⟨rfl, Th.out⟩
      · skip
        cases hrd : readS (cutD d a.toNat m.toNat) with
        | none =>
          obtain ⟨p, rfl⟩ : ∃ p : Nat, a = (p : Int) := ⟨a.toNat, by omega⟩
          obtain ⟨q, rfl⟩ : ∃ q : Nat, m = (q : Int) := ⟨m.toNat, by omega⟩
          have hpq : p + q ≤ 20 := by omega
          obtain ⟨cut, hct⟩ : ∃ x, x = cutD d p q := ⟨_, rfl⟩
          have hc2 : (All.drop (64 * p)).take (64 * q) = cut := by rw [hct]; exact (hcut p q hpq).symm
          have hcl : cut.length = 64 * q := by rw [hct]; exact cutD_len on.ok p q (by omega)
          rw [Int.toNat_natCast, Int.toNat_natCast, ← hct] at hrd
          have e1 : decide ((0 : Int) ≤ (p : Int)) = true := decide_eq_true cc1
          have e2 : decide ((0 : Int) ≤ (q : Int)) = true := decide_eq_true cc2
          have e3 : decide ((p : Int) ≤ (20 : Int)) = true := decide_eq_true cc3
          have e4 : decide ((q : Int) ≤ (20 : Int) - (p : Int)) = true := decide_eq_true cc4
          have f1 : decide ((0 : Int) ≤ t) = true := decide_eq_true (by omega)
          have f2 : decide (t ≤ (1099511627776 : Int)) = true := decide_eq_true (by omega)
          have q1 : scanE 20 d (p : Int) (q : Int) t = 0 := by unfold scanE; rw [if_neg (by unfold inS mostS; omega), on.off]; rfl
          have q2 : scanV 20 d (p : Int) (q : Int) t = scanI cut t 0 := by
            unfold scanV scanI
            rw [q1, if_neg (by simp), if_neg (by omega), hct, Int.toNat_natCast, Int.toNat_natCast]
          have q3 : peekV 20 d (p : Int) (q : Int) = none := by unfold peekV; rw [if_neg (by unfold inS; rw [on.off]; simp; omega), Int.toNat_natCast, Int.toNat_natCast, ← hct, hrd]
          obtain ⟨L, hL⟩ : ∃ L, L = scanI cut t 0 := ⟨_, rfl⟩
          rw [← hL] at q2
          have HL := Lib.hid hL
          clear hL
          obtain ⟨nl, hnl⟩ : ∃ x, x = L.1.length := ⟨_, rfl⟩
          obtain ⟨ul, hul⟩ : ∃ x, x = L.2 := ⟨_, rfl⟩
          have HNL := Lib.hid hnl
          have HUL := Lib.hid hul
          have N6 := S13.scan W5 g 20 d D (p : Int) (q : Int) t ld (by omega) (by first | omega | (have := BND.out; omega))
          rw [q1, q2] at N6
          rw [← hnl, ← hul] at N6
          clear hnl hul
          have N6 := Lib.hid N6
          have N7 := Lib.hid (fun (w6 : World) (t6 : Turn (fun _ => False) W5 w6) => S13.peek w6 g 20 d D (p : Int) (q : Int) (ld.quiet t6) (by omega) (by first | omega | (have := BND.out; omega)))
          rw [q3] at N7
          have HT := Lib.hid ht
          have HLD := Lib.hid ld
          have HSL := Lib.hid sl
          have HD := Lib.hid hD
          have HCL := Lib.hid hcl
          have HC2 := Lib.hid hc2
          have HRD := Lib.hid hrd
          have HON := Lib.hid on
          have hc4 := C4.out.2
          obtain ⟨A8, hA8⟩ : ∃ x, x = cutA A4 c4 (64 * p) := ⟨_, rfl⟩
          obtain ⟨c8, hc8⟩ : ∃ x, x = c4 - 64 * p := ⟨_, rfl⟩
          have SLI : ∀ w, (Instr.slice 22 (.slice A4 1280 c4) (some (.int .i64 (64 * (p : Int)))) (some (.int .i64 (64 * ((p : Int) + (q : Int))))) none).run Tryd.prog w = .ok (.slice A8 (64 * q) c8) w := fun w => by
            rw [run_slice_lh (P := Tryd.prog) w 22 A4 1280 c4 (by kernel_rfl) .i64 .i64 (64 * (p : Int)) (64 * ((p : Int) + (q : Int))) (by omega) (by omega) (by omega)]
            rw [show Tryd.prog.elem 22 = 5 by kernel_rfl, size_u8]
            simp only [Result.andThen, sliced, hA8, hc8, cutA, Nat.mul_one]
            rw [show ((64 : Int) * (p : Int)).toNat = 64 * p by omega, show ((64 : Int) * ((p : Int) + (q : Int))).toNat - 64 * p = 64 * q by omega]
          have SC := Lib.hid (show ∀ (w7 : World) (N : Nat → Prop), SlN w7 N A4 (All.map bv) → SlN w7 N A8 (cut.map bv) from fun w7 N h => by
            rw [← HC2.out, hA8, List.map_take]
            exact (sln_cut h c4 (64 * p) (by rw [HAL.out]; exact hc4)).take (64 * q))
          have AC8 := Lib.hid (And.intro (show A8 = none → c8 = 0 by rw [hA8, hc8]; exact cut_none C4.out.1) (show 64 * q ≤ c8 by omega))
          clear q1 q2 q3 hcut ld sl hD ht on hcl hc2 hct hA8 hc8 hrd
          go_wp2_with (go_at_call 15; refine stop ?_)
          unfold Stop
          refine N6.out.mono ?_
          rintro r w6 ⟨A6, c6, rfl, l6, -, -, t6⟩
          have N7' := Lib.hid (N7.out w6 t6)
          have T6 := Lib.hid t6
          have L6 := Lib.hid l6
          have S56 := t6.size
          clear N6 N7 t6 l6
          go_wp2_with (go_at_call 16; refine stop ?_)
          unfold Stop
          refine N7'.out.mono ?_
          rintro r w7 ⟨rfl, t7⟩
          have T7 := Lib.hid (T6.out.trans t7 (fun _ _ h => h))
          have T67 := Lib.hid t7
          have HSF := Lib.hid (HSL.out.turn (N' := fun i => D i ∨ W5.heap.size ≤ i) (Turn.refl (fun _ => False) _) (fun _ h => h.elim) (fun i hi h => h.elim (fun h => h) (fun h => by omega)))
          have RD := Lib.hid (rread13_any (fun i => D i ∨ W5.heap.size ≤ i) A8 c8 cut w7 (fun i h => .inr (Nat.le_trans T7.out.size h)) (SC.out w7 _ (HSF.out.turn T7.out (fun _ h => h.elim) (fun i hi h => h))) AC8.out.1 (by rw [HCL.out]; exact AC8.out.2) (by rw [HCL.out]; omega))
          rw [HCL.out] at RD
          clear N7' t7 T6
          go_wp2_with (go_at_call 17; refine stop ?_)
          unfold Stop
          refine RD.out.mono ?_
          rintro r wa hp
          unfold RdPost at hp
          rw [HRD.out] at hp
          obtain ⟨rfl, ta⟩ := hp
          have HA9 := Lib.hid (show (wa.alloc (.cells ZRc 42)).heap[wa.heap.size]? = some (.cells ZRc 42 (0, 0)) from heap_alloc_new _ _)
          clear RD
          go_upto_region 21 with (refine wpList_store_row rfl _ _ _ rfl wa.heap.size ZRc rfl rfl 42 ZRc HA9.out KR.out.1 rfl KR.out.2 ?_)
          obtain ⟨wb, hw⟩ : ∃ w', w' = (wa.alloc (.cells ZRc 42)).setRow wa.heap.size ZRc := ⟨_, rfl⟩
          have tz : Turn (fun _ => False) wa wb := by rw [hw]; exact ((Turn.refl (fun _ => False) wa).alloc _).setRow _ _ (fun h => by omega)
          obtain ⟨Q, hQ⟩ : ∃ Q, Q = wa.heap.size := ⟨_, rfl⟩
          have HQR := Lib.hid (show wb.heap[Q]? = some (.cells ZRc 42 (0, 0)) from by rw [hw, hQ]; exact setRow_heap _ _ _ _ _ _ HA9.out)
          change Code.wp _ _ _ _ ((wa.alloc (.cells ZRc 42)).setRow wa.heap.size ZRc)
          rw [← hw, ← hQ]
          have Tb := Lib.hid ((T7.out.trans ta (fun _ _ h => h)).trans tz (fun _ _ h => h))
          have T6b := Lib.hid ((T67.out.trans ta (fun _ _ h => h)).trans tz (fun _ _ h => h))
          clear hw hQ HA9 tz ta T7
          obtain ⟨wc, hwc⟩ : ∃ wc, wc = wb := ⟨_, rfl⟩
          have Tc := Lib.hid (show Turn (fun _ => False) W5 wc by rw [hwc]; exact Tb.out)
          have T6c := Lib.hid (show Turn (fun _ => False) w6 wc by rw [hwc]; exact T6b.out)
          rw [← hwc] at HQR ⊢
          clear Tb T6b
          clear hwc
          have RS := rscan13_any D A8 c8 cut t wc (fun i h => Nat.lt_of_lt_of_le (HLD.out.lt i h) Tc.out.size) (SC.out wc D (HSL.out.turn Tc.out (fun _ h => h.elim) (fun _ _ h => h))) AC8.out.1 (by rw [HCL.out]; exact AC8.out.2) (by rw [HCL.out]; omega)
          rw [HCL.out] at RS
          rw [← HL.out, ← HNL.out, ← HUL.out] at RS
          have RS := Lib.hid RS
          have QE := Lib.hid (show scanE 20 d.fail 0 20 0 = 21 from by unfold scanE; rw [if_neg (by unfold inS mostS; omega)]; rfl)
          have QV := Lib.hid (show scanV 20 d.fail 0 20 0 = ([], 0) from by unfold scanV; rw [QE.out, if_pos (by decide)])
          go_wp2_with (go_at_call 18; refine stop ?_)
          unfold Stop
          refine RS.out.mono ?_
          rintro r wd ⟨Ad, cd, rfl, qd, had, hcd, td⟩
          have Td := Lib.hid (Tc.out.trans td (fun _ _ h => h))
          have T6d := Lib.hid (T6c.out.trans td (fun _ _ h => h))
          have QD := Lib.hid qd
          have FL := Lib.hid ((HLD.out.quiet Td.out).fail)
          clear RS Tc T6c qd td
          go_wp2_with (go_at_call 19; refine stop ?_)
          unfold Stop
          refine FL.out.mono ?_
          rintro r we ⟨⟨v, rfl⟩, lde, te⟩
          have N9 := S13.scan we g 20 d.fail D 0 20 0 lde (by omega) (by first | omega | (have := BND.out; omega))
          rw [QE.out, QV.out] at N9
          have N9 := Lib.hid N9
          have TE := Lib.hid te
          clear FL lde te QE QV
          go_wp2_with (go_at_call 15; refine stop ?_)
          unfold Stop
          refine N9.out.mono ?_
          rintro r wf ⟨Af, cf, rfl, -, -, -, tf⟩
          have Tf := Lib.hid (((HT.out.trans Td.out (fun _ _ h => h)).trans TE.out (fun i hi h => by have := HD.out i h; omega)).trans tf (fun _ _ h => h))
          have qa := ((L6.out.turn (N' := D) T6d.out (fun _ h => h.elim) (fun i hi h => HLD.out.lt i h)).turn (N' := D) TE.out (fun _ h => h) (fun _ _ h => h)).turn (N' := D) tf (fun _ h => h.elim) (fun _ _ h => h)
          have qb := (QD.out.turn (N' := D) TE.out (fun _ h => h) (fun _ _ h => h)).turn (N' := D) tf (fun _ h => h.elim) (fun _ _ h => h)
          have hsm := scanI_small (cut := cut) t (by rw [HCL.out]; omega)
          rw [← HL.out] at hsm
          have SM := rsame13_any A6 Ad c6 cd L.1 L.1 wf qa.lstN.lst qb.lstN.lst hsm.1 hsm.1 hsm.2 hsm.2
          rw [decide_eq_true (show L.1 = L.1 from rfl), ← HNL.out] at SM
          have SM := Lib.hid SM
          have hu : ((ul : Int) == (ul : Int)) = true := beq_self_eq_true _
          clear N9 tf qa qb hsm TE Td T6d QD L6
          go_wp2_with (go_at_call 20; refine stop ?_)
          unfold Stop
          refine SM.out.mono ?_
          rintro r wg ⟨rfl, mg, hwg⟩
          have Tg := Lib.hid (Tf.out.trans (show Turn (fun _ => False) wf wg by rw [hwg]; exact of_turn (below_drewN (Below.refl _ _))) (fun _ _ h => h))
          clear SM hwg Tf
          go_wp2_with (go_at_call 9; refine stop ?_)
          unfold Stop
          refine (AW.out wg Tg.out).mono ?_
          rintro r wh ⟨rfl, th⟩
          have Th := Lib.hid (Tg.out.trans th (fun _ _ h => h))
          clear AW Tg th
          go_wp2
          go_ret
          exact ⟨rfl, Th.out⟩
        | some x =>
          have XBL := Lib.hid (show x.b.length ≤ 65524 from by have h := (read_back hrd).2.1; rw [fldS_length] at h; omega)
          by_cases hrn : x.n = 0
          rotate_left 1
          · skip
            obtain ⟨p, rfl⟩ : ∃ p : Nat, a = (p : Int) := ⟨a.toNat, by omega⟩
            obtain ⟨q, rfl⟩ : ∃ q : Nat, m = (q : Int) := ⟨m.toNat, by omega⟩
            have hpq : p + q ≤ 20 := by omega
            obtain ⟨cut, hct⟩ : ∃ x, x = cutD d p q := ⟨_, rfl⟩
            have hc2 : (All.drop (64 * p)).take (64 * q) = cut := by rw [hct]; exact (hcut p q hpq).symm
            have hcl : cut.length = 64 * q := by rw [hct]; exact cutD_len on.ok p q (by omega)
            rw [Int.toNat_natCast, Int.toNat_natCast, ← hct] at hrd
            have e1 : decide ((0 : Int) ≤ (p : Int)) = true := decide_eq_true cc1
            have e2 : decide ((0 : Int) ≤ (q : Int)) = true := decide_eq_true cc2
            have e3 : decide ((p : Int) ≤ (20 : Int)) = true := decide_eq_true cc3
            have e4 : decide ((q : Int) ≤ (20 : Int) - (p : Int)) = true := decide_eq_true cc4
            have f1 : decide ((0 : Int) ≤ t) = true := decide_eq_true (by omega)
            have f2 : decide (t ≤ (1099511627776 : Int)) = true := decide_eq_true (by omega)
            have q1 : scanE 20 d (p : Int) (q : Int) t = 0 := by unfold scanE; rw [if_neg (by unfold inS mostS; omega), on.off]; rfl
            have q2 : scanV 20 d (p : Int) (q : Int) t = scanI cut t 0 := by
              unfold scanV scanI
              rw [q1, if_neg (by simp), if_neg (by omega), hct, Int.toNat_natCast, Int.toNat_natCast]
            have q3 : peekV 20 d (p : Int) (q : Int) = none := by unfold peekV; rw [if_neg (by unfold inS; rw [on.off]; simp; omega), Int.toNat_natCast, Int.toNat_natCast, ← hct, hrd]; exact if_neg hrn
            obtain ⟨L, hL⟩ : ∃ L, L = scanI cut t 0 := ⟨_, rfl⟩
            rw [← hL] at q2
            have HL := Lib.hid hL
            clear hL
            obtain ⟨nl, hnl⟩ : ∃ x, x = L.1.length := ⟨_, rfl⟩
            obtain ⟨ul, hul⟩ : ∃ x, x = L.2 := ⟨_, rfl⟩
            have HNL := Lib.hid hnl
            have HUL := Lib.hid hul
            have N6 := S13.scan W5 g 20 d D (p : Int) (q : Int) t ld (by omega) (by first | omega | (have := BND.out; omega))
            rw [q1, q2] at N6
            rw [← hnl, ← hul] at N6
            clear hnl hul
            have N6 := Lib.hid N6
            have N7 := Lib.hid (fun (w6 : World) (t6 : Turn (fun _ => False) W5 w6) => S13.peek w6 g 20 d D (p : Int) (q : Int) (ld.quiet t6) (by omega) (by first | omega | (have := BND.out; omega)))
            rw [q3] at N7
            have HT := Lib.hid ht
            have HLD := Lib.hid ld
            have HSL := Lib.hid sl
            have HD := Lib.hid hD
            have HCL := Lib.hid hcl
            have HC2 := Lib.hid hc2
            have HRD := Lib.hid hrd
            have HON := Lib.hid on
            have hc4 := C4.out.2
            obtain ⟨A8, hA8⟩ : ∃ x, x = cutA A4 c4 (64 * p) := ⟨_, rfl⟩
            obtain ⟨c8, hc8⟩ : ∃ x, x = c4 - 64 * p := ⟨_, rfl⟩
            have SLI : ∀ w, (Instr.slice 22 (.slice A4 1280 c4) (some (.int .i64 (64 * (p : Int)))) (some (.int .i64 (64 * ((p : Int) + (q : Int))))) none).run Tryd.prog w = .ok (.slice A8 (64 * q) c8) w := fun w => by
              rw [run_slice_lh (P := Tryd.prog) w 22 A4 1280 c4 (by kernel_rfl) .i64 .i64 (64 * (p : Int)) (64 * ((p : Int) + (q : Int))) (by omega) (by omega) (by omega)]
              rw [show Tryd.prog.elem 22 = 5 by kernel_rfl, size_u8]
              simp only [Result.andThen, sliced, hA8, hc8, cutA, Nat.mul_one]
              rw [show ((64 : Int) * (p : Int)).toNat = 64 * p by omega, show ((64 : Int) * ((p : Int) + (q : Int))).toNat - 64 * p = 64 * q by omega]
            have SC := Lib.hid (show ∀ (w7 : World) (N : Nat → Prop), SlN w7 N A4 (All.map bv) → SlN w7 N A8 (cut.map bv) from fun w7 N h => by
              rw [← HC2.out, hA8, List.map_take]
              exact (sln_cut h c4 (64 * p) (by rw [HAL.out]; exact hc4)).take (64 * q))
            have AC8 := Lib.hid (And.intro (show A8 = none → c8 = 0 by rw [hA8, hc8]; exact cut_none C4.out.1) (show 64 * q ≤ c8 by omega))
            clear q1 q2 q3 hcut ld sl hD ht on hcl hc2 hct hA8 hc8 hrd
            go_wp2_with (go_at_call 15; refine stop ?_)
            unfold Stop
            refine N6.out.mono ?_
            rintro r w6 ⟨A6, c6, rfl, l6, -, -, t6⟩
            have N7' := Lib.hid (N7.out w6 t6)
            have T6 := Lib.hid t6
            have L6 := Lib.hid l6
            have S56 := t6.size
            clear N6 N7 t6 l6
            go_wp2_with (go_at_call 16; refine stop ?_)
            unfold Stop
            refine N7'.out.mono ?_
            rintro r w7 ⟨rfl, t7⟩
            have T7 := Lib.hid (T6.out.trans t7 (fun _ _ h => h))
            have T67 := Lib.hid t7
            have HSF := Lib.hid (HSL.out.turn (N' := fun i => D i ∨ W5.heap.size ≤ i) (Turn.refl (fun _ => False) _) (fun _ h => h.elim) (fun i hi h => h.elim (fun h => h) (fun h => by omega)))
            have RD := Lib.hid (rread13_any (fun i => D i ∨ W5.heap.size ≤ i) A8 c8 cut w7 (fun i h => .inr (Nat.le_trans T7.out.size h)) (SC.out w7 _ (HSF.out.turn T7.out (fun _ h => h.elim) (fun i hi h => h))) AC8.out.1 (by rw [HCL.out]; exact AC8.out.2) (by rw [HCL.out]; omega))
            rw [HCL.out] at RD
            clear N7' t7 T6
            go_wp2_with (go_at_call 17; refine stop ?_)
            unfold Stop
            refine RD.out.mono ?_
            rintro r wa hp
            unfold RdPost at hp
            rw [HRD.out] at hp
            obtain ⟨⟨Ab, cb, rfl, sb, hab, hcb⟩, ta⟩ := hp
            obtain ⟨CR, hCR⟩ : ∃ CR : Array Value, CR = #[.int .i64 (x.t : Int), .int .i64 (x.n : Int), .int .i64 (x.size : Int), .slice Ab x.b.length cb] := ⟨_, rfl⟩
            have KC := Lib.hid (show (Tryd.prog.info? 42).map (·.size) = some CR.size ∧ ZRc.size = CR.size ∧ CR.all (·.oneCell') = true by rw [hCR]; exact ⟨rc_info, rfl, by simp [Value.oneCell']⟩)
            rw [← hCR]
            have HCR := Lib.hid hCR
            have SB := Lib.hid sb
            clear hCR sb
            have HA9 := Lib.hid (show (wa.alloc (.cells ZRc 42)).heap[wa.heap.size]? = some (.cells ZRc 42 (0, 0)) from heap_alloc_new _ _)
            clear RD
            go_upto_region 21 with (refine wpList_store_row rfl _ _ _ rfl wa.heap.size CR rfl rfl 42 ZRc HA9.out KC.out.1 KC.out.2.1 KC.out.2.2 ?_)
            obtain ⟨wb, hw⟩ : ∃ w', w' = (wa.alloc (.cells ZRc 42)).setRow wa.heap.size CR := ⟨_, rfl⟩
            have tz : Turn (fun _ => False) wa wb := by rw [hw]; exact ((Turn.refl (fun _ => False) wa).alloc _).setRow _ _ (fun h => by omega)
            obtain ⟨Q, hQ⟩ : ∃ Q, Q = wa.heap.size := ⟨_, rfl⟩
            have HQR := Lib.hid (show wb.heap[Q]? = some (.cells CR 42 (0, 0)) from by rw [hw, hQ]; exact setRow_heap _ _ _ _ _ _ HA9.out)
            change Code.wp _ _ _ _ ((wa.alloc (.cells ZRc 42)).setRow wa.heap.size CR)
            rw [← hw, ← hQ]
            have Tb := Lib.hid ((T7.out.trans ta (fun _ _ h => h)).trans tz (fun _ _ h => h))
            have T6b := Lib.hid ((T67.out.trans ta (fun _ _ h => h)).trans tz (fun _ _ h => h))
            clear hw hQ HA9 tz ta T7
            have k0 : wb.cell? ⟨Q, 0, none⟩ = some (.int .i64 (x.t : Int)) := by rw [cell_of_row _ _ _ _ _ _ HQR.out, HCR.out]; rfl
            have k1 : wb.cell? ⟨Q, 1, none⟩ = some (.int .i64 (x.n : Int)) := by rw [cell_of_row _ _ _ _ _ _ HQR.out, HCR.out]; rfl
            have k3 : wb.cell? ⟨Q, 3, none⟩ = some (.slice Ab x.b.length cb) := by rw [cell_of_row _ _ _ _ _ _ HQR.out, HCR.out]; rfl
            have kn : ((x.n : Int) == 0) = false := by rw [beq_eq_false_iff_ne]; omega
            obtain ⟨wc, hwc⟩ : ∃ wc, wc = wb := ⟨_, rfl⟩
            have Tc := Lib.hid (show Turn (fun _ => False) W5 wc by rw [hwc]; exact Tb.out)
            have T6c := Lib.hid (show Turn (fun _ => False) w6 wc by rw [hwc]; exact T6b.out)
            rw [← hwc] at k0 k1 k3 ⊢
            clear Tb T6b HQR
            clear hwc
            have RS := rscan13_any D A8 c8 cut t wc (fun i h => Nat.lt_of_lt_of_le (HLD.out.lt i h) Tc.out.size) (SC.out wc D (HSL.out.turn Tc.out (fun _ h => h.elim) (fun _ _ h => h))) AC8.out.1 (by rw [HCL.out]; exact AC8.out.2) (by rw [HCL.out]; omega)
            rw [HCL.out] at RS
            rw [← HL.out, ← HNL.out, ← HUL.out] at RS
            have RS := Lib.hid RS
            have QE := Lib.hid (show scanE 20 d.fail 0 20 0 = 21 from by unfold scanE; rw [if_neg (by unfold inS mostS; omega)]; rfl)
            have QV := Lib.hid (show scanV 20 d.fail 0 20 0 = ([], 0) from by unfold scanV; rw [QE.out, if_pos (by decide)])
            go_wp2_with (go_at_call 18; refine stop ?_)
            unfold Stop
            refine RS.out.mono ?_
            rintro r wd ⟨Ad, cd, rfl, qd, had, hcd, td⟩
            have Td := Lib.hid (Tc.out.trans td (fun _ _ h => h))
            have T6d := Lib.hid (T6c.out.trans td (fun _ _ h => h))
            have QD := Lib.hid qd
            have FL := Lib.hid ((HLD.out.quiet Td.out).fail)
            clear RS Tc T6c qd td
            go_wp2_with (go_at_call 19; refine stop ?_)
            unfold Stop
            refine FL.out.mono ?_
            rintro r we ⟨⟨v, rfl⟩, lde, te⟩
            have N9 := S13.scan we g 20 d.fail D 0 20 0 lde (by omega) (by first | omega | (have := BND.out; omega))
            rw [QE.out, QV.out] at N9
            have N9 := Lib.hid N9
            have TE := Lib.hid te
            clear FL lde te QE QV
            go_wp2_with (go_at_call 15; refine stop ?_)
            unfold Stop
            refine N9.out.mono ?_
            rintro r wf ⟨Af, cf, rfl, -, -, -, tf⟩
            have Tf := Lib.hid (((HT.out.trans Td.out (fun _ _ h => h)).trans TE.out (fun i hi h => by have := HD.out i h; omega)).trans tf (fun _ _ h => h))
            have qa := ((L6.out.turn (N' := D) T6d.out (fun _ h => h.elim) (fun i hi h => HLD.out.lt i h)).turn (N' := D) TE.out (fun _ h => h) (fun _ _ h => h)).turn (N' := D) tf (fun _ h => h.elim) (fun _ _ h => h)
            have qb := (QD.out.turn (N' := D) TE.out (fun _ h => h) (fun _ _ h => h)).turn (N' := D) tf (fun _ h => h.elim) (fun _ _ h => h)
            have hsm := scanI_small (cut := cut) t (by rw [HCL.out]; omega)
            rw [← HL.out] at hsm
            have SM := rsame13_any A6 Ad c6 cd L.1 L.1 wf qa.lstN.lst qb.lstN.lst hsm.1 hsm.1 hsm.2 hsm.2
            rw [decide_eq_true (show L.1 = L.1 from rfl), ← HNL.out] at SM
            have SM := Lib.hid SM
            have hu : ((ul : Int) == (ul : Int)) = true := beq_self_eq_true _
            clear N9 tf qa qb hsm TE Td T6d QD L6
            go_wp2_with (go_at_call 20; refine stop ?_)
            unfold Stop
            refine SM.out.mono ?_
            rintro r wg ⟨rfl, mg, hwg⟩
            have Tg := Lib.hid (Tf.out.trans (show Turn (fun _ => False) wf wg by rw [hwg]; exact of_turn (below_drewN (Below.refl _ _))) (fun _ _ h => h))
            clear SM hwg Tf
            go_wp2_with (go_at_call 9; refine stop ?_)
            unfold Stop
            refine (AW.out wg Tg.out).mono ?_
            rintro r wh ⟨rfl, th⟩
            have Th := Lib.hid (Tg.out.trans th (fun _ _ h => h))
            clear AW Tg th
            go_wp2
            go_ret
            exact ⟨rfl, Th.out⟩
          obtain ⟨p, rfl⟩ : ∃ p : Nat, a = (p : Int) := ⟨a.toNat, by omega⟩
          obtain ⟨q, rfl⟩ : ∃ q : Nat, m = (q : Int) := ⟨m.toNat, by omega⟩
          have hpq : p + q ≤ 20 := by omega
          obtain ⟨cut, hct⟩ : ∃ x, x = cutD d p q := ⟨_, rfl⟩
          have hc2 : (All.drop (64 * p)).take (64 * q) = cut := by rw [hct]; exact (hcut p q hpq).symm
          have hcl : cut.length = 64 * q := by rw [hct]; exact cutD_len on.ok p q (by omega)
          rw [Int.toNat_natCast, Int.toNat_natCast, ← hct] at hrd
          have e1 : decide ((0 : Int) ≤ (p : Int)) = true := decide_eq_true cc1
          have e2 : decide ((0 : Int) ≤ (q : Int)) = true := decide_eq_true cc2
          have e3 : decide ((p : Int) ≤ (20 : Int)) = true := decide_eq_true cc3
          have e4 : decide ((q : Int) ≤ (20 : Int) - (p : Int)) = true := decide_eq_true cc4
          have f1 : decide ((0 : Int) ≤ t) = true := decide_eq_true (by omega)
          have f2 : decide (t ≤ (1099511627776 : Int)) = true := decide_eq_true (by omega)
          have q1 : scanE 20 d (p : Int) (q : Int) t = 0 := by unfold scanE; rw [if_neg (by unfold inS mostS; omega), on.off]; rfl
          have q2 : scanV 20 d (p : Int) (q : Int) t = scanI cut t 0 := by
            unfold scanV scanI
            rw [q1, if_neg (by simp), if_neg (by omega), hct, Int.toNat_natCast, Int.toNat_natCast]
          have q3 : peekV 20 d (p : Int) (q : Int) = some x := by unfold peekV; rw [if_neg (by unfold inS; rw [on.off]; simp; omega), Int.toNat_natCast, Int.toNat_natCast, ← hct, hrd]; exact if_pos hrn
          obtain ⟨L, hL⟩ : ∃ L, L = scanI cut t 0 := ⟨_, rfl⟩
          rw [← hL] at q2
          have HL := Lib.hid hL
          clear hL
          obtain ⟨nl, hnl⟩ : ∃ x, x = L.1.length := ⟨_, rfl⟩
          obtain ⟨ul, hul⟩ : ∃ x, x = L.2 := ⟨_, rfl⟩
          have HNL := Lib.hid hnl
          have HUL := Lib.hid hul
          have N6 := S13.scan W5 g 20 d D (p : Int) (q : Int) t ld (by omega) (by first | omega | (have := BND.out; omega))
          rw [q1, q2] at N6
          rw [← hnl, ← hul] at N6
          clear hnl hul
          have N6 := Lib.hid N6
          have N7 := Lib.hid (fun (w6 : World) (t6 : Turn (fun _ => False) W5 w6) => S13.peek w6 g 20 d D (p : Int) (q : Int) (ld.quiet t6) (by omega) (by first | omega | (have := BND.out; omega)))
          rw [q3] at N7
          have HT := Lib.hid ht
          have HLD := Lib.hid ld
          have HSL := Lib.hid sl
          have HD := Lib.hid hD
          have HCL := Lib.hid hcl
          have HC2 := Lib.hid hc2
          have HRD := Lib.hid hrd
          have HON := Lib.hid on
          have hc4 := C4.out.2
          obtain ⟨A8, hA8⟩ : ∃ x, x = cutA A4 c4 (64 * p) := ⟨_, rfl⟩
          obtain ⟨c8, hc8⟩ : ∃ x, x = c4 - 64 * p := ⟨_, rfl⟩
          have SLI : ∀ w, (Instr.slice 22 (.slice A4 1280 c4) (some (.int .i64 (64 * (p : Int)))) (some (.int .i64 (64 * ((p : Int) + (q : Int))))) none).run Tryd.prog w = .ok (.slice A8 (64 * q) c8) w := fun w => by
            rw [run_slice_lh (P := Tryd.prog) w 22 A4 1280 c4 (by kernel_rfl) .i64 .i64 (64 * (p : Int)) (64 * ((p : Int) + (q : Int))) (by omega) (by omega) (by omega)]
            rw [show Tryd.prog.elem 22 = 5 by kernel_rfl, size_u8]
            simp only [Result.andThen, sliced, hA8, hc8, cutA, Nat.mul_one]
            rw [show ((64 : Int) * (p : Int)).toNat = 64 * p by omega, show ((64 : Int) * ((p : Int) + (q : Int))).toNat - 64 * p = 64 * q by omega]
          have SC := Lib.hid (show ∀ (w7 : World) (N : Nat → Prop), SlN w7 N A4 (All.map bv) → SlN w7 N A8 (cut.map bv) from fun w7 N h => by
            rw [← HC2.out, hA8, List.map_take]
            exact (sln_cut h c4 (64 * p) (by rw [HAL.out]; exact hc4)).take (64 * q))
          have AC8 := Lib.hid (And.intro (show A8 = none → c8 = 0 by rw [hA8, hc8]; exact cut_none C4.out.1) (show 64 * q ≤ c8 by omega))
          clear q1 q2 q3 hcut ld sl hD ht on hcl hc2 hct hA8 hc8 hrd
          go_wp2_with (go_at_call 15; refine stop ?_)
          unfold Stop
          refine N6.out.mono ?_
          rintro r w6 ⟨A6, c6, rfl, l6, -, -, t6⟩
          have N7' := Lib.hid (N7.out w6 t6)
          have T6 := Lib.hid t6
          have L6 := Lib.hid l6
          have S56 := t6.size
          clear N6 N7 t6 l6
          go_wp2_with (go_at_call 16; refine stop ?_)
          unfold Stop
          refine N7'.out.mono ?_
          rintro r w7 ⟨⟨A7, c7, rfl, s7, -, -⟩, t7⟩
          have SX7 := Lib.hid s7
          have T7 := Lib.hid (T6.out.trans t7 (fun _ _ h => h))
          have T67 := Lib.hid t7
          have HSF := Lib.hid (HSL.out.turn (N' := fun i => D i ∨ W5.heap.size ≤ i) (Turn.refl (fun _ => False) _) (fun _ h => h.elim) (fun i hi h => h.elim (fun h => h) (fun h => by omega)))
          have RD := Lib.hid (rread13_any (fun i => D i ∨ W5.heap.size ≤ i) A8 c8 cut w7 (fun i h => .inr (Nat.le_trans T7.out.size h)) (SC.out w7 _ (HSF.out.turn T7.out (fun _ h => h.elim) (fun i hi h => h))) AC8.out.1 (by rw [HCL.out]; exact AC8.out.2) (by rw [HCL.out]; omega))
          rw [HCL.out] at RD
          clear N7' t7 T6 s7
          go_wp2_with (go_at_call 17; refine stop ?_)
          unfold Stop
          refine RD.out.mono ?_
          rintro r wa hp
          unfold RdPost at hp
          rw [HRD.out] at hp
          obtain ⟨⟨Ab, cb, rfl, sb, hab, hcb⟩, ta⟩ := hp
          obtain ⟨CR, hCR⟩ : ∃ CR : Array Value, CR = #[.int .i64 (x.t : Int), .int .i64 (x.n : Int), .int .i64 (x.size : Int), .slice Ab x.b.length cb] := ⟨_, rfl⟩
          have KC := Lib.hid (show (Tryd.prog.info? 42).map (·.size) = some CR.size ∧ ZRc.size = CR.size ∧ CR.all (·.oneCell') = true by rw [hCR]; exact ⟨rc_info, rfl, by simp [Value.oneCell']⟩)
          rw [← hCR]
          have HCR := Lib.hid hCR
          have SB := Lib.hid sb
          clear hCR sb
          have HA9 := Lib.hid (show (wa.alloc (.cells ZRc 42)).heap[wa.heap.size]? = some (.cells ZRc 42 (0, 0)) from heap_alloc_new _ _)
          clear RD
          go_upto_region 21 with (refine wpList_store_row rfl _ _ _ rfl wa.heap.size CR rfl rfl 42 ZRc HA9.out KC.out.1 KC.out.2.1 KC.out.2.2 ?_)
          obtain ⟨wb, hw⟩ : ∃ w', w' = (wa.alloc (.cells ZRc 42)).setRow wa.heap.size CR := ⟨_, rfl⟩
          have tz : Turn (fun _ => False) wa wb := by rw [hw]; exact ((Turn.refl (fun _ => False) wa).alloc _).setRow _ _ (fun h => by omega)
          obtain ⟨Q, hQ⟩ : ∃ Q, Q = wa.heap.size := ⟨_, rfl⟩
          have HQR := Lib.hid (show wb.heap[Q]? = some (.cells CR 42 (0, 0)) from by rw [hw, hQ]; exact setRow_heap _ _ _ _ _ _ HA9.out)
          change Code.wp _ _ _ _ ((wa.alloc (.cells ZRc 42)).setRow wa.heap.size CR)
          rw [← hw, ← hQ]
          have Tb := Lib.hid ((T7.out.trans ta (fun _ _ h => h)).trans tz (fun _ _ h => h))
          have T6b := Lib.hid ((T67.out.trans ta (fun _ _ h => h)).trans tz (fun _ _ h => h))
          have SX := Lib.hid ((SX7.out.turn (N' := fun k => k < W5.heap.size) ta (fun _ h => h.elim) (fun i hi h => by have := Tb.out.size; show i < _; exact Nat.lt_of_lt_of_le h S56)).turn tz (fun _ h => h.elim) (fun _ _ h => h))
          have SBb := Lib.hid (SB.out.turn tz (fun _ h => h.elim) (fun _ _ h => h))
          clear hw hQ HA9 tz ta T7
          have k0 : wb.cell? ⟨Q, 0, none⟩ = some (.int .i64 (x.t : Int)) := by rw [cell_of_row _ _ _ _ _ _ HQR.out, HCR.out]; rfl
          have k1 : wb.cell? ⟨Q, 1, none⟩ = some (.int .i64 (x.n : Int)) := by rw [cell_of_row _ _ _ _ _ _ HQR.out, HCR.out]; rfl
          have k3 : wb.cell? ⟨Q, 3, none⟩ = some (.slice Ab x.b.length cb) := by rw [cell_of_row _ _ _ _ _ _ HQR.out, HCR.out]; rfl
          have kn : ((x.n : Int) == 0) = true := by rw [beq_iff_eq]; omega
          have kt : ((x.t : Int) != (x.t : Int)) = false := bne_self_eq_false _
          have BY := Lib.hid (rbytes_any A7 Ab c7 cb _ _ x.b x.b wb SX.out.sl SBb.out.sl (by have := XBL.out; unfold maxLen; omega) (by have := XBL.out; unfold maxLen; omega))
          rw [decide_eq_true (show x.b = x.b from rfl)] at BY
          go_wp2_with (go_at_call 12; refine stop ?_)
          unfold Stop
          refine BY.out.mono ?_
          rintro r wc ⟨rfl, mk, hwc⟩
          have tc : Turn (fun _ => False) wb wc := by rw [hwc]; exact of_turn (below_drewN (Below.refl _ _))
          have Tc := Lib.hid (Tb.out.trans tc (fun _ _ h => h))
          have T6c := Lib.hid (T6b.out.trans tc (fun _ _ h => h))
          clear BY hwc tc Tb T6b k0 k1 k3
          have RS := rscan13_any D A8 c8 cut t wc (fun i h => Nat.lt_of_lt_of_le (HLD.out.lt i h) Tc.out.size) (SC.out wc D (HSL.out.turn Tc.out (fun _ h => h.elim) (fun _ _ h => h))) AC8.out.1 (by rw [HCL.out]; exact AC8.out.2) (by rw [HCL.out]; omega)
          rw [HCL.out] at RS
          rw [← HL.out, ← HNL.out, ← HUL.out] at RS
          have RS := Lib.hid RS
          have QE := Lib.hid (show scanE 20 d.fail 0 20 0 = 21 from by unfold scanE; rw [if_neg (by unfold inS mostS; omega)]; rfl)
          have QV := Lib.hid (show scanV 20 d.fail 0 20 0 = ([], 0) from by unfold scanV; rw [QE.out, if_pos (by decide)])
          go_wp2_with (go_at_call 18; refine stop ?_)
          unfold Stop
          refine RS.out.mono ?_
          rintro r wd ⟨Ad, cd, rfl, qd, had, hcd, td⟩
          have Td := Lib.hid (Tc.out.trans td (fun _ _ h => h))
          have T6d := Lib.hid (T6c.out.trans td (fun _ _ h => h))
          have QD := Lib.hid qd
          have FL := Lib.hid ((HLD.out.quiet Td.out).fail)
          clear RS Tc T6c qd td
          go_wp2_with (go_at_call 19; refine stop ?_)
          unfold Stop
          refine FL.out.mono ?_
          rintro r we ⟨⟨v, rfl⟩, lde, te⟩
          have N9 := S13.scan we g 20 d.fail D 0 20 0 lde (by omega) (by first | omega | (have := BND.out; omega))
          rw [QE.out, QV.out] at N9
          have N9 := Lib.hid N9
          have TE := Lib.hid te
          clear FL lde te QE QV
          go_wp2_with (go_at_call 15; refine stop ?_)
          unfold Stop
          refine N9.out.mono ?_
          rintro r wf ⟨Af, cf, rfl, -, -, -, tf⟩
          have Tf := Lib.hid (((HT.out.trans Td.out (fun _ _ h => h)).trans TE.out (fun i hi h => by have := HD.out i h; omega)).trans tf (fun _ _ h => h))
          have qa := ((L6.out.turn (N' := D) T6d.out (fun _ h => h.elim) (fun i hi h => HLD.out.lt i h)).turn (N' := D) TE.out (fun _ h => h) (fun _ _ h => h)).turn (N' := D) tf (fun _ h => h.elim) (fun _ _ h => h)
          have qb := (QD.out.turn (N' := D) TE.out (fun _ h => h) (fun _ _ h => h)).turn (N' := D) tf (fun _ h => h.elim) (fun _ _ h => h)
          have hsm := scanI_small (cut := cut) t (by rw [HCL.out]; omega)
          rw [← HL.out] at hsm
          have SM := rsame13_any A6 Ad c6 cd L.1 L.1 wf qa.lstN.lst qb.lstN.lst hsm.1 hsm.1 hsm.2 hsm.2
          rw [decide_eq_true (show L.1 = L.1 from rfl), ← HNL.out] at SM
          have SM := Lib.hid SM
          have hu : ((ul : Int) == (ul : Int)) = true := beq_self_eq_true _
          clear N9 tf qa qb hsm TE Td T6d QD L6
          go_wp2_with (go_at_call 20; refine stop ?_)
          unfold Stop
          refine SM.out.mono ?_
          rintro r wg ⟨rfl, mg, hwg⟩
          have Tg := Lib.hid (Tf.out.trans (show Turn (fun _ => False) wf wg by rw [hwg]; exact of_turn (below_drewN (Below.refl _ _))) (fun _ _ h => h))
          clear SM hwg Tf
          go_wp2_with (go_at_call 9; refine stop ?_)
          unfold Stop
          refine (AW.out wg Tg.out).mono ?_
          rintro r wh ⟨rfl, th⟩
          have Th := Lib.hid (Tg.out.trans th (fun _ _ h => h))
          clear AW Tg th
          go_wp2
          go_ret
          exact ⟨rfl, Th.out⟩
end
end Go.Proofs.YthbheobjhpmoeaaDoor
