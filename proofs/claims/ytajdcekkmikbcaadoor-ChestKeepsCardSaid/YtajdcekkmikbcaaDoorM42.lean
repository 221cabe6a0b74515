/- Merged: The document's Find. The law's bytes: what a drum has. The document's sizes and the landed ones. The landed wipe of a drum on which nothing fails. The landed chest's Sync; lay: a head on a side where nothing else is. -/
import Derived.Test.YtajdcekkmikbcaaDoorM41
namespace Go.Proofs.YtajdcekkmikbcaaDoor
section
set_option linter.unusedVariables false
set_option linter.unusedSimpArgs false
open Go.RowKit
set_option maxRecDepth 100000
def sideS (b : List B8) (half i : Nat) : List B8 := (b.drop (64 * half * i)).take (64 * half)
def findK (b : List B8) (half i : Nat) (x : Nat × List (List B8)) : Nat × List (List B8) := match readS (sideS b half i) with
  | none => x
  | some r => if r.n = 0 ∧ x.1 < r.t then (r.t, (scanI (sideS b half i) (r.t : Int) 0).1) else x
def findF (b : List B8) (half : Nat) : Nat → Nat × List (List B8) → Nat × List (List B8)
  | 0, x => findK b half 1 (findK b half 0 x)
  | 1, x => findK b half 1 x
  | _ + 2, x => x
def findS (b : List B8) : Nat × List (List B8) := findF b (b.length / 64 / 2) 0 (0, [])
theorem findF_step (b : List B8) (half k : Nat) (x : Nat × List (List B8)) (hk : k < 2) : findF b half k x = findF b half (k + 1) (findK b half k x) := by
  match k, hk with
  | 0, _ => rfl
  | 1, _ => rfl
set_option maxHeartbeats 16000000 in
theorem rfind_any (N : Nat → Prop) (Ab : Option Addr) (cb : Nat) (b : List B8) (w : World) (hs : SlN w N Ab (b.map bv)) (hA : Ab = none → cb = 0) (hc : b.length ≤ cb) (hlen : b.length ≤ 1000000) :
    Calls Tryd.prog 23 #[.slice Ab b.length cb] w (ChVR N ((findS b).1 : Int) ((b.length / 64 / 2 : Nat) : Int) (findS b).2 w) := by
  have hzc := zero_ch
  have hrz := zero_rc
  have KR := Lib.hid (show (Tryd.prog.info? 84).map (·.size) = some ZRc.size ∧ ZRc.all (·.oneCell') = true from ⟨rc_info, by simp [Value.oneCell']⟩)
  obtain ⟨w1, hw1⟩ : ∃ w1, w1 = (w.alloc (.cells ZCh 33)).alloc (.cells ZCh 33) := ⟨_, rfl⟩
  obtain ⟨y, hy⟩ : ∃ y, y = w.heap.size := ⟨_, rfl⟩
  have t1 : Turn (fun _ => False) w w1 := by rw [hw1]; exact ((Turn.refl _ _).alloc _).alloc _
  have Y1 := Lib.hid (show w1.heap[y]? = some (.cells ZCh 33 (0, 0)) by rw [hw1, hy]; exact heap_alloc2_old _ _ _)
  have B1 := Lib.hid (show CBx w1 (y + 1) ((0 : Nat) : Int) 0 none ([] : List (List B8)).length 0 by rw [hw1, hy]; exact heap_alloc2_new _ _ _)
  have SZ1 := Lib.hid (show w1.heap.size = y + 2 by rw [hw1, hy]; simp)
  have T1 := Lib.hid t1
  have HY := Lib.hid hy
  have SL := Lib.hid hs
  have AC := Lib.hid (And.intro hA hc)
  obtain ⟨F_, hF⟩ : ∃ x, x = findS b := ⟨_, rfl⟩
  rw [← hF]
  unfold findS at hF
  obtain ⟨n, hn⟩ : ∃ n, n = b.length := ⟨_, rfl⟩
  rw [← hn] at hlen hF ⊢
  have HN := Lib.hid hn
  obtain ⟨M, hM⟩ : ∃ M, M = n / 64 := ⟨_, rfl⟩
  obtain ⟨H, hH⟩ : ∃ H, H = M / 2 := ⟨_, rfl⟩
  rw [show n / 64 / 2 = H by rw [hH, hM]] at hF ⊢
  have hq1 : ((n : Int)).tdiv 64 = (M : Int) := by rw [Int.tdiv_eq_ediv_of_nonneg (by omega)]; omega
  have hq2 : ((M : Int)).tdiv 2 = (H : Int) := by rw [Int.tdiv_eq_ediv_of_nonneg (by omega)]; omega
  have hHn : 128 * H ≤ n := by omega
  have hMb : M ≤ 1000000 := by omega
  have hwM : IntKind.i64.wrap (M : Int) = (M : Int) := IntWalk.i64_in _ (by omega)
  have hwH : IntKind.i64.wrap (H : Int) = (H : Int) := IntWalk.i64_in _ (by omega)
  have HF := Lib.hid hF
  obtain ⟨N2, hN2⟩ : ∃ N2 : Nat → Prop, N2 = fun i => (N i ∧ i < w.heap.size) ∨ i = y ∨ i = y + 1 := ⟨_, rfl⟩
  have HN2 := Lib.hid hN2
  clear hs hA hc hn hM hH hF hN2 t1
  go_enter Tryd.func23, Tryd.ntmps23
  go_upto_region 3 with fail
  change Code.wp _ _ _ _ ((w.alloc (.cells ZCh 33)).alloc (.cells ZCh 33))
  rw [← hw1, ← hy]
  clear hw1 hy
  go_wp2
  go_loopw [5] (fun iv wr => ∃ (k : Nat) (x : Nat × List (List B8)) (hf : Int) (A : Option Addr) (c : Nat), k ≤ 2 ∧ iv = .int .i64 (k : Int) ∧ F_ = findF b H k x ∧ CBx wr (y + 1) (x.1 : Int) hf A x.2.length c ∧ LstQ wr N2 A x.2 ∧ (A = none → c = 0) ∧ x.2.length ≤ c ∧ wr.heap[y]? = some (.cells ZCh 33 (0, 0)) ∧ w1.heap.size ≤ wr.heap.size ∧ Turn (fun _ => False) w wr) (fun iv _ => 2 - (intOf iv).toNat)
  case atStart => exact ⟨0, (0, []), 0, none, 0, by omega, rfl, HF.out, B1.out, fun i x h => by simp at h, fun _ => rfl, by simp, Y1.out, Nat.le_refl _, T1.out⟩
  case round =>
    obtain ⟨k, ⟨bt, bL⟩, hf, A, c, hk, rfl, he, hbx, hq, hA, hc, hyy, hsz, ht⟩ := hrel
    dsimp only at he hbx hq hc
    have HE := Lib.hid he
    have BX := Lib.hid hbx
    have Q := Lib.hid hq
    have ACB := Lib.hid (And.intro hA hc)
    have YY := Lib.hid hyy
    have TT := Lib.hid ht
    have SZR := Lib.hid hsz
    clear he hbx hq hA hc hyy ht hsz
    by_cases hk2 : k < 2
    · have dk : decide ((k : Int) < 2) = true := decide_eq_true (by omega)
      obtain ⟨P, hP⟩ : ∃ P, P = 64 * H * k := ⟨_, rfl⟩
      have hPQ : P + 64 * H ≤ n ∧ (64 * (H : Int) * (k : Int) = (P : Int)) ∧ (64 * (H : Int) * ((k : Int) + 1) = ((P + 64 * H : Nat) : Int)) := by
        rcases (show k = 0 ∨ k = 1 by omega) with rfl | rfl
        · simp at hP ⊢; subst hP; omega
        · simp at hP ⊢; subst hP; omega
      obtain ⟨Q9_, hQ9⟩ : ∃ Q, Q = P + 64 * H := ⟨_, rfl⟩
      obtain ⟨S, hSd⟩ : ∃ S, S = 64 * H := ⟨_, rfl⟩
      rw [← hSd] at hQ9 hPQ
      rw [← hQ9] at hPQ
      have hm1 : IntKind.i64.wrap (64 * (H : Int)) = 64 * (H : Int) := IntWalk.i64_in _ (by omega)
      have hm2 : IntKind.i64.wrap (64 * (H : Int) * (k : Int)) = (P : Int) := by rw [hPQ.2.1]; exact IntWalk.i64_in _ (by omega)
      have hm3 : IntKind.i64.wrap ((k : Int) + 1) = (k : Int) + 1 := IntWalk.i64_in _ (by omega)
      have hm4 : IntKind.i64.wrap (64 * (H : Int) * ((k : Int) + 1)) = (Q9_ : Int) := by rw [hPQ.2.2]; exact IntWalk.i64_in _ (by omega)
      obtain ⟨A2, hA2⟩ : ∃ x, x = cutA Ab cb P := ⟨_, rfl⟩
      obtain ⟨c2, hc2⟩ : ∃ x, x = cb - P := ⟨_, rfl⟩
      obtain ⟨l2, hl2⟩ : ∃ x, x = sideS b H k := ⟨_, rfl⟩
      have hncb : n ≤ cb := by have := AC.out.2; have := HN.out; omega
      have SLI : ∀ w, (Instr.slice 36 (.slice Ab n cb) (some (.int .i64 (P : Int))) (some (.int .i64 (Q9_ : Int))) none).run Tryd.prog w = .ok (.slice A2 S c2) w := fun w => by
        rw [run_slice_lh (P := Tryd.prog) w 36 Ab n cb (by kernel_rfl) .i64 .i64 (P : Int) (Q9_ : Int) (by omega) (by omega) (by omega)]
        rw [show Tryd.prog.elem 36 = 5 by kernel_rfl, size_u8]
        simp only [Result.andThen, sliced, hA2, hc2, cutA, Nat.mul_one, Int.toNat_natCast]
        rw [show Q9_ - P = S by omega]
      have hll : l2.length = S := by
        rw [hl2, sideS, List.length_take, List.length_drop, ← hP, ← hSd, ← HN.out]; omega
      have SL2 : ∀ (N' : Nat → Prop), (∀ i, i < w.heap.size → N' i → N i) → SlN wr N' A2 (l2.map bv) := fun N' h => by
        have h1 := (sln_cut (SL.out.turn (N' := N') TT.out (fun _ h => h.elim) h) cb P (by have := HN.out; omega)).take S
        rw [← List.map_take] at h1
        rw [hl2, sideS, ← hP, ← hSd, hA2]
        exact h1
      have hA2n : A2 = none → c2 = 0 := by rw [hA2, hc2]; exact cut_none AC.out.1
      have hS2 : S ≤ c2 := by omega
      have hSb : S ≤ 1000000 := by omega
      have RD := rread13_any (fun i => N2 i ∨ wr.heap.size ≤ i) A2 c2 l2 wr (fun i hi => .inr hi) (SL2 _ (fun i hi h => by
        rw [HN2.out] at h
        have := HY.out
        have := TT.out.size
        rcases h with (h | h | h) | h
        · exact h.1
        · omega
        · omega
        · omega)) hA2n (by rw [hll]; exact hS2) (by rw [hll]; omega)
      rw [hll] at RD
      have RD := Lib.hid RD
      have SLH := Lib.hid (SL2 N2 (fun i hi h => by
        rw [HN2.out] at h
        have := HY.out
        rcases h with h | h | h
        · exact h.1
        · omega
        · omega))
      have HE2 := Lib.hid (show F_ = findF b H (k + 1) (match readS l2 with
        | none => (bt, bL)
        | some r => if r.n = 0 ∧ bt < r.t then (r.t, (scanI l2 (r.t : Int) 0).1) else (bt, bL)) by rw [HE.out, findF_step b H k _ hk2, hl2]; rfl)
      have HLL := Lib.hid hll
      have A2C := Lib.hid (And.intro hA2n hS2)
      have hnew : ∀ i, N2 i → i < w1.heap.size := fun i h => by
        rw [HN2.out] at h
        have := HY.out
        have := SZ1.out
        rcases h with h | h | h
        · omega
        · omega
        · omega
      have HNW := Lib.hid hnew
      have hyw : y + 2 ≤ wr.heap.size := by have := SZR.out; have := SZ1.out; omega
      clear hP hPQ hQ9 hSd hA2 hc2 hl2 hll SL2 hA2n HE hnew
      obtain ⟨W3, eW3⟩ : ∃ W3, W3 = wr := ⟨_, rfl⟩
      subst eW3
      go_wp2_with (go_at_call 47; refine stop ?_)
      unfold Stop
      refine RD.out.mono ?_
      rintro r wa hp
      unfold RdPost at hp
      clear RD
      have KEEP := Lib.hid (show ∀ (wb : World) (e : F_ = findF b H (k + 1) (bt, bL)), Turn (fun _ => False) W3 wb → ∃ (k' : Nat) (x : Nat × List (List B8)) (hf : Int) (A : Option Addr) (c : Nat), k' ≤ 2 ∧ (Value.int .i64 ((k : Int) + 1)) = .int .i64 (k' : Int) ∧ F_ = findF b H k' x ∧ CBx wb (y + 1) (x.1 : Int) hf A x.2.length c ∧ LstQ wb N2 A x.2 ∧ (A = none → c = 0) ∧ x.2.length ≤ c ∧ wb.heap[y]? = some (.cells ZCh 33 (0, 0)) ∧ w1.heap.size ≤ wb.heap.size ∧ Turn (fun _ => False) w wb from
        fun wb e tb => ⟨k + 1, (bt, bL), hf, A, c, by omega, by go_num, e, tb.heap BX.out (fun h => h), Q.out.turn tb (fun _ h => h.elim) (fun _ _ h => h), ACB.out.1, ACB.out.2, tb.heap YY.out (fun h => h), Nat.le_trans SZR.out tb.size, TT.out.trans tb (fun _ _ h => h)⟩)
      cases hr : readS l2 with
      | none =>
        rw [hr] at hp
        obtain ⟨rfl, ta⟩ := hp
        have HE3 := Lib.hid (show F_ = findF b H (k + 1) (bt, bL) by rw [HE2.out, hr])
        clear hr HE2
        have HA := Lib.hid (show (wa.alloc (.cells ZRc 84)).heap[wa.heap.size]? = some (.cells ZRc 84 (0, 0)) from heap_alloc_new _ _)
        go_upto_region 8 with (refine wpList_store_row rfl _ _ _ rfl wa.heap.size ZRc rfl rfl 84 ZRc HA.out KR.out.1 rfl KR.out.2 ?_)
        obtain ⟨wb, hw⟩ : ∃ w', w' = (wa.alloc (.cells ZRc 84)).setRow wa.heap.size ZRc := ⟨_, rfl⟩
        have tt := Lib.hid (show Turn (fun _ => False) W3 wb by rw [hw]; exact ta.trans (((Turn.refl (fun _ => False) wa).alloc _).setRow _ _ (fun h => by omega)) (fun _ _ h => h))
        change Code.wp _ _ _ _ ((wa.alloc (.cells ZRc 84)).setRow wa.heap.size ZRc)
        rw [← hw]
        clear hw HA ta
        go_wp2
        go_roundw
        case rel => exact KEEP.out wb HE3.out tt.out
        case measure => simp [intOf]; omega
      | some x =>
        rw [hr] at hp
        obtain ⟨⟨Ax, cx, rfl, -, -, -⟩, ta⟩ := hp
        have HE3 := Lib.hid (show F_ = findF b H (k + 1) (if x.n = 0 ∧ bt < x.t then (x.t, (scanI l2 (x.t : Int) 0).1) else (bt, bL)) by rw [HE2.out, hr])
        clear hr HE2
        obtain ⟨xt, hxt⟩ : ∃ y, y = x.t := ⟨_, rfl⟩
        obtain ⟨xn, hxn⟩ : ∃ y, y = x.n := ⟨_, rfl⟩
        rw [← hxt, ← hxn] at HE3 ⊢
        obtain ⟨CR, hCR⟩ : ∃ CR : Array Value, CR = #[.int .i64 (xt : Int), .int .i64 (xn : Int), .int .i64 (x.size : Int), .slice Ax x.b.length cx] := ⟨_, rfl⟩
        have KC := Lib.hid (show (Tryd.prog.info? 84).map (·.size) = some CR.size ∧ ZRc.size = CR.size ∧ CR.all (·.oneCell') = true by rw [hCR]; exact ⟨rc_info, rfl, by simp [Value.oneCell']⟩)
        rw [← hCR]
        have HCR := Lib.hid hCR
        clear hxt hxn hCR
        have HA := Lib.hid (show (wa.alloc (.cells ZRc 84)).heap[wa.heap.size]? = some (.cells ZRc 84 (0, 0)) from heap_alloc_new _ _)
        go_upto_region 8 with (refine wpList_store_row rfl _ _ _ rfl wa.heap.size CR rfl rfl 84 ZRc HA.out KC.out.1 KC.out.2.1 KC.out.2.2 ?_)
        obtain ⟨wb, hw⟩ : ∃ w', w' = (wa.alloc (.cells ZRc 84)).setRow wa.heap.size CR := ⟨_, rfl⟩
        have tt := Lib.hid (show Turn (fun _ => False) W3 wb by rw [hw]; exact ta.trans (((Turn.refl (fun _ => False) wa).alloc _).setRow _ _ (fun h => by omega)) (fun _ _ h => h))
        obtain ⟨Qr, hQr⟩ : ∃ Q, Q = wa.heap.size := ⟨_, rfl⟩
        have HQ := Lib.hid (show wb.heap[Qr]? = some (.cells CR 84 (0, 0)) from by rw [hw, hQr]; exact setRow_heap _ _ _ _ _ _ HA.out)
        change Code.wp _ _ _ _ ((wa.alloc (.cells ZRc 84)).setRow wa.heap.size CR)
        rw [← hw, ← hQr]
        clear hw hQr HA ta
        have BXb := Lib.hid (show CBx wb (y + 1) (bt : Int) hf A bL.length c from tt.out.heap BX.out (fun h => h))
        have k0 : wb.cell? ⟨Qr, 0, none⟩ = some (.int .i64 (xt : Int)) := by rw [cell_of_row _ _ _ _ _ _ HQ.out, HCR.out]; rfl
        have k1 : wb.cell? ⟨Qr, 1, none⟩ = some (.int .i64 (xn : Int)) := by rw [cell_of_row _ _ _ _ _ _ HQ.out, HCR.out]; rfl
        obtain ⟨c0, c1, c2_⟩ := BXb.out.cells
        by_cases hxn : xn = 0
        rotate_left 1
        · have dn : ((xn : Int) == 0) = false := by rw [beq_eq_false_iff_ne]; omega
          have HE4 := Lib.hid (show F_ = findF b H (k + 1) (bt, bL) by rw [HE3.out, if_neg (fun h => hxn h.1)])
          clear hxn HE3
          go_wp2
          go_roundw
          case rel => exact KEEP.out wb HE4.out tt.out
          case measure => simp [intOf]; omega
        have dn : ((xn : Int) == 0) = true := by rw [beq_iff_eq]; omega
        by_cases hlt : bt < xt
        rotate_left 1
        · have dl : decide ((bt : Int) < (xt : Int)) = false := decide_eq_false (by omega)
          have dl' : decide (bt < xt) = false := decide_eq_false hlt
          have HE4 := Lib.hid (show F_ = findF b H (k + 1) (bt, bL) by rw [HE3.out, if_neg (fun h => hlt h.2)])
          clear hxn hlt HE3
          go_wp2
          go_roundw
          case rel => exact KEEP.out wb HE4.out tt.out
          case measure => simp [intOf]; omega
        have dl : decide ((bt : Int) < (xt : Int)) = true := decide_eq_true (by omega)
        have dl' : decide (bt < xt) = true := decide_eq_true hlt
        have HE4 := HE3.out.trans (congrArg (findF b H (k + 1)) (if_pos ⟨hxn, hlt⟩))
        have SCN := rscan13_any N2 A2 c2 l2 (xt : Int) wb (fun i h => by have := HNW.out i h; have := SZR.out; have := tt.out.size; omega) (SLH.out.turn (N' := N2) tt.out (fun _ h => h.elim) (fun _ _ h => h)) A2C.out.1 (by rw [HLL.out]; exact A2C.out.2) (by rw [HLL.out]; omega)
        rw [HLL.out] at SCN
        obtain ⟨R, hR⟩ : ∃ R, R = scanI l2 (xt : Int) 0 := ⟨_, rfl⟩
        rw [← hR] at HE4 SCN
        have HE4 := Lib.hid HE4
        have SCNh := Lib.hid SCN
        clear SCN hR hxn hlt HE3 KEEP
        go_wp2_with (go_at_call 48; refine stop ?_)
        unfold Stop
        refine SCNh.out.mono ?_
        rintro r w5 ⟨A9, c9, rfl, q9, a9, k9, t9⟩
        have k05 := t9.cell k0 (fun h => h)
        have BX5 := Lib.hid (show CBx w5 (y + 1) (bt : Int) hf A bL.length c from t9.heap BXb.out (fun h => h))
        have T5 := Lib.hid (tt.out.trans t9 (fun _ _ h => h))
        have Q9 := Lib.hid q9
        have A9C := Lib.hid (And.intro a9 k9)
        have YY5 := Lib.hid (T5.out.heap YY.out (fun h => h))
        clear q9 a9 k9 t9 SCNh k0 k1 c0 c1 c2_ BXb
        obtain ⟨n9, hn9⟩ : ∃ m, m = R.1.length := ⟨_, rfl⟩
        rw [← hn9] at A9C ⊢
        have HN9 := Lib.hid hn9
        clear hn9
        have F9 := Lib.hid (cst_facts (xt : Int) (H : Int) A9 n9 c9)
        have FO := Lib.hid (show (cstC (bt : Int) hf A bL.length c).size = (cstC (xt : Int) (H : Int) A9 n9 c9).size from rfl)
        go_upto_region 10 with fail
        go_step
        iterate 15 go_step
        refine wpList_store_row rfl _ _ _ rfl (y + 1) (cstC (xt : Int) (H : Int) A9 n9 c9) rfl rfl 33 (cstC (bt : Int) hf A bL.length c) BX5.out F9.out.1 FO.out F9.out.2.2 ?_
        obtain ⟨w6, hw6⟩ : ∃ w', w' = w5.setRow (y + 1) (cstC (xt : Int) (H : Int) A9 n9 c9) := ⟨_, rfl⟩
        have t6 : Turn (fun i => i = y + 1) w5 w6 := by rw [hw6]; exact (Turn.refl _ _).setRow _ _ (fun _ => rfl)
        have BX6 := Lib.hid (show CBx w6 (y + 1) (xt : Int) (H : Int) A9 R.1.length c9 by unfold CBx; rw [hw6, ← HN9.out]; exact setRow_heap _ _ _ _ _ _ BX5.out)
        have Q6 := Lib.hid (Q9.out.turn (N' := N2) t6 (fun i h => by rw [HN2.out]; exact .inr (.inr h)) (fun _ _ h => h))
        have YY6 := Lib.hid (t6.heap YY5.out (fun h => by have h' : y = y + 1 := h; omega))
        have T6 := Lib.hid ((TT.out.trans T5.out (fun _ _ h => h)).trans t6 (fun i hi h => by have h' : i = y + 1 := h; have := HY.out; omega))
        have S6 := Lib.hid (show w1.heap.size ≤ w6.heap.size by have := SZR.out; have := T5.out.size; have := t6.size; omega)
        have K9 := Lib.hid (show R.1.length ≤ c9 by rw [← HN9.out]; exact A9C.out.2)
        rw [← hw6]
        clear hw6 t6
        go_wp2
        go_roundw
        case rel => exact ⟨k + 1, (xt, R.1), (H : Int), A9, c9, by omega, by go_num, HE4.out, BX6.out, Q6.out, A9C.out.1, K9.out, YY6.out, S6.out, T6.out⟩
        case measure => simp [intOf]; omega
    · have hkk : k = 2 := by omega
      have dk : decide ((k : Int) < 2) = false := decide_eq_false (by omega)
      have HE2 := Lib.hid (show F_ = (bt, bL) by rw [HE.out, hkk]; rfl)
      obtain ⟨c0, c1, c2⟩ := BX.out.cells
      have z1 := frozen_of_row wr (y + 1) 1 _ _ BX.out
      obtain ⟨w10, hw10⟩ : ∃ w', w' = wr.setCell ⟨y + 1, 1, none⟩ (.int .i64 (H : Int)) := ⟨_, rfl⟩
      have t10 : Turn (fun i => i = y + 1) wr w10 := by rw [hw10]; exact (Turn.refl _ _).setCell _ _ (fun _ => rfl)
      have B10 := Lib.hid (show CBx w10 (y + 1) (bt : Int) (H : Int) A bL.length c by unfold CBx; rw [hw10, heap_setCell_same wr (y + 1) 1 _ _ _ BX.out]; rfl)
      have Y10 := Lib.hid (t10.heap YY.out (fun h => by have h' : y = y + 1 := h; omega))
      have T10 := Lib.hid (TT.out.trans t10 (fun i hi h => by have h' : i = y + 1 := h; have := HY.out; omega))
      have Q10 := Lib.hid (Q.out.turn (N' := N2) t10 (fun i h => by rw [HN2.out]; exact .inr (.inr h)) (fun _ _ h => h))
      have F10 := Lib.hid (cst_facts (bt : Int) (H : Int) A bL.length c)
      clear t10 hk2
      go_upto_region 12 with fail
      change Code.wp _ _ _ _ (wr.setCell ⟨y + 1, 1, none⟩ (.int .i64 (H : Int)))
      rw [← hw10]
      clear hw10 c0 c1 c2 z1
      obtain ⟨c0, c1, c2⟩ := B10.out.cells
      go_wp2_with (first
        | (refine wpList_load_row rfl _ _ rfl (y + 1) rfl 33 (cstC (bt : Int) (H : Int) A bL.length c) (0, 0) Tryd.underlying33 B10.out rfl rfl F10.out.1 ?_)
        | (refine wpList_store_row rfl _ _ _ rfl y (cstC (bt : Int) (H : Int) A bL.length c) rfl rfl 33 ZCh Y10.out F10.out.1 F10.out.2.1 F10.out.2.2 ?_))
      have ts : Turn (fun i => i = y) w10 (w10.setRow y (cstC (bt : Int) (H : Int) A bL.length c)) := (Turn.refl _ _).setRow _ _ (fun _ => rfl)
      have HP : ChVR N (F_.1 : Int) (H : Int) F_.2 w (.returned (.agg (cstC (bt : Int) (H : Int) A bL.length c))) (w10.setRow y (cstC (bt : Int) (H : Int) A bL.length c)) := by
        rw [HE2.out]
        exact ⟨_, rfl, A, c, rfl, Q10.out.turn ts (fun i h => by rw [HN2.out]; exact .inr (.inl h)) (fun i hi h => by rw [HN2.out]; exact .inl h), ACB.out.1, ACB.out.2, T10.out.trans ts (fun i hi h => by have h' : i = y := h; have := HY.out; omega)⟩
      refine bodyPost_ret (v := .agg (cstC (bt : Int) (H : Int) A bL.length c)) ?_ rfl HP
      exact results_cell_row Tryd.results23 _ _ y _ _ (0, 0) _ rfl (setRow_heap _ _ _ _ _ _ Y10.out) Tryd.underlying33 rfl F10.out.1
end
section
set_option linter.unusedVariables false
set_option linter.unusedSimpArgs false
open Go.RowKit
set_option maxRecDepth 100000
set_option maxHeartbeats 4000000 in
theorem cbytes_any (g n : Nat) (d : Dr) (D : Nat → Prop) (w : World) (h : LD w g n d D) (on : OnD d n) (hn : n ≤ 8192) :
    Calls Tryd.prog 24 #[.pointer (some ⟨g, 0, none⟩)] w fun r w' => ∃ A c, r = .returned (.slice A (64 * n) c) ∧ w'.ownsRow w.heap.size 5 1 (.slice A (64 * n) c) (64 * n) ((cutD d 0 n).map bv) ∧ Turn (fun _ => False) w w' := by
  have HL := Lib.hid h
  have HOK := Lib.hid h.ok
  have HON := Lib.hid on
  clear h on
  go_enter Tryd.func24, Tryd.ntmps24
  go_wp2
  go_loopw [3, 4] (fun v iv wr => ∃ i : Nat, i ≤ n ∧ iv = .int .i64 (i : Int) ∧ wr.ownsRow w.heap.size 5 1 v (64 * i) ((cutD d 0 i).map bv) ∧ Turn (fun _ => False) w wr) (fun _ iv _ => n - (intOf iv).toNat)
  case atStart => exact ⟨0, by omega, rfl, World.ownsRow_nil _ _ _ _, Turn.refl _ _⟩
  case round =>
    obtain ⟨i, him, rfl, ho, ht⟩ := hrel
    obtain ⟨Av, cv, rfl, -, -, hcv, hav⟩ := own_sl ho
    have LN := Lib.hid ((HL.out.quiet ht).len)
    have HO := Lib.hid ho
    have HT := Lib.hid ht
    have hsz := ht.size
    obtain ⟨W3, eW3⟩ : ∃ W3, W3 = wr := ⟨_, rfl⟩
    subst eW3
    by_cases hi : i < n
    · have RD := (HL.out.quiet ht).sector HON.out hi
      have hcs : cutD d 0 (i + 1) = cutD d 0 i ++ d.now i := by rw [cutD_succ d 0 i, Nat.zero_add]
      have hcl := cutD_len HOK.out 0 i (by omega)
      have hnl := Dr.now_len HOK.out i hi
      have RDh := Lib.hid RD
      have HCS := Lib.hid hcs
      have HCL := Lib.hid hcl
      have HNL := Lib.hid hnl
      clear ho ht hcs hcl hnl RD
      go_wp2_with (go_at_call 31; refine stop ?_)
      unfold Stop
      refine LN.out.mono ?_
      rintro r w4 ⟨rfl, hw4⟩
      rw [hw4]
      clear hw4 LN
      go_wp2_with (go_at_call 49; refine stop ?_)
      unfold Stop
      refine RDh.out.mono ?_
      rintro r w4 ⟨A4, c4, rfl, s4, a4, t4⟩
      have O4 := Lib.hid (own_turn t4 HO.out (fun _ _ h => h))
      have P4 := Lib.hid (Bts.of_sl s4.sl)
      have T4 := Lib.hid (HT.out.trans t4 (fun _ _ h => h))
      have S4 := t4.size
      clear s4 t4 RDh HO HT
      go_wp2_with (at_builtin; refine stop ?_)
      unfold Stop
      refine wpList_app (o := ⟨some 23, _, _, _, _, _⟩) rfl _ _ rfl w.heap.size _ (cutD d 0 i) (d.now i) (64 * i) 64 HCL.out HNL.out rfl O4.out A4 c4 rfl a4 P4.out (by omega) (by omega) ?_
      intro A5 c5 w5 a5 k5 ho5 hg5
      have T5 := Lib.hid (T4.out.grown hg5 (fun i hi e => by have := (O4.out.lt i e.symm).1; omega))
      have O5 := Lib.hid (show w5.ownsRow w.heap.size 5 1 (.slice A5 (64 * i + 64) c5) (64 * (i + 1)) ((cutD d 0 (i + 1)).map bv) from by rw [HCS.out]; exact ho5)
      clear ho5 hg5 O4 P4 T4
      go_wp2
      go_roundw
      case rel => exact ⟨i + 1, by omega, by go_num, O5.out, T5.out⟩
      case measure => simp [intOf]; omega
    · obtain rfl : i = n := by omega
      clear ho ht
      go_wp2_with (go_at_call 31; refine stop ?_)
      unfold Stop
      refine LN.out.mono ?_
      rintro r w4 ⟨rfl, hw4⟩
      rw [hw4]
      clear hw4 LN
      go_wp2
      go_ret
      exact ⟨Av, cv, rfl, HO.out, HT.out⟩
end
section
set_option linter.unusedVariables false
set_option linter.unusedSimpArgs false
open Go.RowKit
set_option maxRecDepth 100000
theorem fldS_len (t n : Nat) (b : List B8) : (fldS t n b).length = (numB t).length + ((numB n).length + (numB b.length).length) + b.length := by
  unfold fldS
  simp only [List.length_append]
  omega
theorem formE13_nat {t n : Nat} (ht : t ≤ 1099511627776) (hn : n ≤ 1099511627776) (b : List B8) : formE13 (t : Int) (n : Int) b = if 65524 < (fldS t n b).length then 4 else 0 := by
  unfold formE13 mostS
  rw [if_neg (by omega)]
  rfl
/-- How many sectors a record has: the document's number is the landed one. -/
theorem sizeC_sec {t n : Nat} (ht : t ≤ 1099511627776) (hn : n ≤ 1099511627776) (b : List B8) : sizeC (t : Int) (n : Int) b = if 1024 < secB t n b.length then -1 else (secB t n b.length : Int) := by
  have hf := fldS_len t n b
  have he := formE13_nat ht hn b
  have hs : secB t n b.length = (12 + (fldS t n b).length + 63) / 64 := by unfold secB; rw [hf]; congr 1; omega
  have hl : (formS t n b).length = 12 + (fldS t n b).length + secPad (12 + (fldS t n b).length) := laidS_len _
  unfold sizeC formV13
  rw [he, hs]
  by_cases h : 65524 < (fldS t n b).length
  · rw [if_pos h, if_neg (by decide), if_pos (by omega)]
  · rw [if_neg h, if_pos rfl, if_pos rfl, if_neg (by omega)]
    have e : formS ((t : Int)).toNat ((n : Int)).toNat b = formS t n b := rfl
    rw [e, hl]
    unfold secPad
    omega
/-- Texts fit where each of them would be kept. -/
theorem fitsB_cons {t i left : Nat} {b : List B8} {bs : List (List B8)} (ht : t ≤ 1099511627776) (hi : i ≤ 1099511627776) : fitsB t i left (b :: bs) = if sizeC (t : Int) (i : Int) b < 0 ∨ (left : Int) < sizeC (t : Int) (i : Int) b then false else fitsB t (i + 1) (left - secB t i b.length) bs := by
  rw [fitsB, sizeC_sec ht hi]
  by_cases h1 : 1024 < secB t i b.length
  · rw [if_pos (.inl h1), if_pos h1, if_pos (.inl (by decide))]
  · rw [if_neg h1]
    by_cases h2 : left < secB t i b.length
    · rw [if_pos (.inr h2), if_pos (.inr (by omega))]
    · rw [if_neg (fun h => h.elim h1 h2), if_neg (fun h => h.elim (fun h => by omega) (fun h => by omega))]
end
section
set_option linter.unusedVariables false
set_option linter.unusedSimpArgs false
open Go.RowKit
set_option maxRecDepth 100000
theorem wipeL_on (d0 : Dr) {n p : Nat} : ∀ (r i : Nat) (d : Dr), OnD d n → p + i + r ≤ n → d = wipeD d0 p i → (wipeL d0 d p i r).2 = 0 ∧ (wipeL d0 d p i r).1 = wipeD d0 p (i + r)
  | 0, i, d, on, h, e => ⟨rfl, e⟩
  | r + 1, i, d, on, h, e => by
    rw [wipeL]
    by_cases hz : d0.now (p + i) = zeros 64
    · rw [if_pos hz]
      have := wipeL_on d0 (p := p) r (i + 1) d on (by omega) (by rw [wipeD, if_pos hz]; exact e)
      rw [show i + 1 + r = i + (r + 1) by omega] at this
      exact this
    · rw [if_neg hz]
      have hw := on.writeE (p + i) (by omega) (zeros 64) (by simp [zeros])
      rw [if_neg (by rw [hw]; simp)]
      have := wipeL_on d0 (p := p) r (i + 1) (d.write ((p + i : Nat) : Int) (zeros 64)) (on.write _ _) (by omega) (by rw [wipeD, if_neg hz, ← e])
      rw [show i + 1 + r = i + (r + 1) by omega] at this
      exact this
theorem wipeR_on {d : Dr} {n : Nat} (on : OnD d n) (p m : Nat) (h : p + m ≤ n) : wipeR d p m = (wipeE d p m, 0) := by
  obtain ⟨h1, h2⟩ := wipeL_on d (p := p) m 0 d on (by omega) rfl
  rw [Nat.zero_add] at h2
  unfold wipeR wipeE
  rw [if_neg (by rw [h1]; simp), h2]
  cases hw : wiB d p m with
  | true =>
    rw [if_pos rfl, if_pos rfl]
    obtain ⟨ok, f0, o0⟩ := (wipeD_on on p m h).1
    have hs : (wipeD d p m).syncE = 0 := by unfold Dr.syncE; rw [if_neg (by rw [o0]; simp), if_neg (by rw [f0]; decide)]
    rw [hs]
  | false =>
    rw [if_neg (by simp), if_neg (by simp), wipeD_no d p m hw]
end
section
set_option linter.unusedVariables false
set_option linter.unusedSimpArgs false
open Go.RowKit
set_option maxRecDepth 100000
theorem ksync_gone (c : Nat) (w : World) (h : KGn w c) : Calls Tryd.prog 16 #[.pointer (some ⟨c, 0, none⟩)] w fun r w' => r = .returned (.int .i64 20) ∧ w' = w := by
  obtain ⟨PS, half, a, t, H, NV, hb⟩ := h
  have US := Lib.hid (kused_no c PS half a t H NV w hb)
  clear hb
  go_enter Tryd.func16, Tryd.ntmps16
  go_wp2_with (go_at_call 38; refine US.out.mono ?_; clear US; rintro r w1 ⟨rfl, hw⟩; rw [hw]; clear hw)
  go_ret
  exact ⟨rfl, rfl⟩
/-- What a Sync comes to. -/
def YPost (g c n : Nat) (d : Dr) (k : Ck) (D E : Nat → Prop) (w : World) (r : Ending) (w' : World) : Prop :=
  ∃ D', r = .returned (.int .i64 (d.syncE : Int)) ∧ (∀ j, D' j → Dn D w w' j) ∧ Turn (fun j => D j ∨ E j) w w' ∧
    ((d.syncE = 0 ∧ KAt w' g c n d.sync k D' E) ∨ (d.syncE ≠ 0 ∧ LD w' g n d.sync D' ∧ KGn w' c ∧ ¬ D' c ∧ c < w'.heap.size))
set_option maxHeartbeats 4000000 in
theorem ksync_any (w : World) (g c n : Nat) (d : Dr) (k : Ck) (D E : Nat → Prop) (h : KAt w g c n d k D E) :
    Calls Tryd.prog 16 #[.pointer (some ⟨c, 0, none⟩)] w (YPost g c n d k D E w) := by
  obtain ⟨ld, ok, ⟨s, hd, Ah, ch, NV, o, vs, bx, sb, hL1, hh, hAh, hch, ho, hv, hsc, hEs, hNE⟩, hEc, two, dj, lt⟩ := h
  have US := Lib.hid (kused_yes c g _ _ _ _ _ _ w bx)
  have ats : Ats SBp w g s n d (k.scr (n / 2)) D (fun j => j = s) := ⟨ld, sb, fun j e => by subst e; exact dj _ hEs, fun j e => by subst e; exact lt _ hEs⟩
  have SY := lsyncP_any w g s n d (k.scr (n / 2)) D (fun j => j = s) ats
  have hse : (k.scr (n / 2)).syncE d = d.syncE := by unfold Scr.syncE; rw [if_neg (by simp [Ck.scr])]
  have hsd : (k.scr (n / 2)).syncD d = d.sync := by unfold Scr.syncD; rw [if_neg (by simp [Ck.scr])]
  rw [hse, hsd] at SY
  have HSS := Lib.hid (show ∀ s', d.syncE = 0 → (k.scr (n / 2)).SyncS d s' → s' = k.scr (n / 2) from fun s' h0 hp => by unfold Scr.SyncS at hp; rw [hse, if_pos h0] at hp; exact hp)
  have SY := Lib.hid SY
  obtain ⟨c0, c1, -⟩ := bx.cells
  have BX := Lib.hid bx
  have HO := Lib.hid ho
  have HV := Lib.hid hv
  have HH := Lib.hid (And.intro hAh hch)
  have HHS := Lib.hid hh
  have HL1 := Lib.hid hL1
  have HOK := Lib.hid ok
  have HDJ := Lib.hid dj
  have HLT := Lib.hid lt
  have HTWO := Lib.hid two
  have HNE := Lib.hid hNE
  have hcs : c ≠ s := fun e => hsc e.symm
  have hcD : ¬ D c := dj c hEc
  obtain ⟨er, her⟩ : ∃ x, x = d.syncE := ⟨_, rfl⟩
  have HQ := Lib.hid (show YPost g c n d k D E w = fun r w' => ∃ D', r = .returned (.int .i64 (er : Int)) ∧ (∀ j, D' j → Dn D w w' j) ∧ Turn (fun j => D j ∨ E j) w w' ∧
    ((er = 0 ∧ KAt w' g c n d.sync k D' E) ∨ (er ≠ 0 ∧ LD w' g n d.sync D' ∧ KGn w' c ∧ ¬ D' c ∧ c < w'.heap.size)) by rw [her]; rfl)
  rw [← her] at SY HSS
  clear her hse hsd bx ho hv hAh hch hh hL1 ok dj lt two hNE ld ats sb
  go_enter Tryd.func16, Tryd.ntmps16
  go_wp2_with (first
    | (go_at_call 38; refine US.out.mono ?_; clear US; rintro r w1 ⟨rfl, hw⟩; rw [hw]; clear hw)
    | (go_at_call 42; refine stop ?_))
  unfold Stop
  refine SY.out.mono ?_
  rintro r wa ⟨D1, sc1, rfl, at1, ps1, hD1, t1⟩
  have hct : ¬ (D c ∨ c = s) := fun h => h.elim hcD hcs
  have B1 := Lib.hid (BX.out.turn t1 hct)
  have AT1 := Lib.hid at1
  have PS1 := Lib.hid ps1
  have HD1 := Lib.hid hD1
  have NIN := Lib.hid (show ∀ j, j < w.heap.size → (D1 j ∨ E j) → (D j ∨ E j) from fun j hj h => h.elim (fun h => (hD1 j h).elim .inl (fun h => by have := h.1; omega)) .inr)
  have SIN := Lib.hid (show ∀ j, (D j ∨ j = s) → (D j ∨ E j) from fun j h => h.elim .inl (fun e => by subst e; exact .inr hEs))
  have HH1 := Lib.hid (HHS.out.turn (N' := fun j => D1 j ∨ E j) t1 SIN.out NIN.out)
  have V1 := Lib.hid (HV.out.turn (N' := fun j => D1 j ∨ E j) t1 SIN.out NIN.out)
  have O1 := Lib.hid (ownsO_turn HO.out t1 (fun j hj hh => by
    obtain ⟨e1, e2, e3⟩ := HNE.out j hj
    exact hh.elim (HDJ.out j e1) e2))
  have DJ1 := Lib.hid (show ∀ j, E j → ¬ D1 j from fun j hj hd => (hD1 j hd).elim (HDJ.out j hj) (fun h => by have := HLT.out j hj; have := h.1; omega))
  have LT1 := Lib.hid (show ∀ j, E j → j < wa.heap.size from fun j hj => Nat.lt_of_lt_of_le (HLT.out j hj) t1.size)
  have T1E := Lib.hid (show Turn (fun j => D j ∨ E j) w wa from t1.mono (fun j _ h => SIN.out j h))
  clear SY BX HO HV HHS c0 c1 at1 ps1 hD1 t1
  by_cases h0 : er = 0
  · have d0 : ((er : Int) != 0) = false := by rw [bne_eq_false_iff_eq]; omega
    have SB1 := AT1.out.sb
    rw [HSS.out _ h0 PS1.out] at SB1
    have SB1 := Lib.hid SB1
    have H0 := Lib.hid h0
    clear h0
    go_wp2
    go_ret
    rw [HQ.out]
    exact ⟨D1, (by rw [H0.out]; rfl), HD1.out, T1E.out, .inl ⟨H0.out, ⟨AT1.out.ld, HOK.out, ⟨s, hd, Ah, ch, NV, o, vs, B1.out, SB1.out, HL1.out, HH1.out, HH.out.1, HH.out.2, O1.out, V1.out, hsc, hEs, HNE.out⟩, hEc, HTWO.out, DJ1.out, LT1.out⟩⟩⟩
  · have d0 : ((er : Int) != 0) = true := by rw [bne_iff_ne]; omega
    have EN := Lib.hid (kends_any c _ _ _ _ _ (er : Int) _ _ wa B1.out)
    have H0 := Lib.hid h0
    clear h0
    go_wp2_with (go_at_call 41; refine stop ?_)
    unfold Stop
    refine EN.out.mono ?_
    rintro r w2 ⟨rfl, b2, t2⟩
    have B2 := Lib.hid b2
    have T2 := Lib.hid t2
    clear EN b2 t2
    go_wp2
    go_ret
    rw [HQ.out]
    exact ⟨D1, rfl, fun j hj => (HD1.out j hj).elim .inl (fun h => .inr ⟨h.1, Nat.lt_of_lt_of_le h.2 T2.out.size⟩), T1E.out.trans T2.out (fun j _ e => by have e : j = c := e; subst e; exact .inr hEc), .inr ⟨H0.out, AT1.out.ld.keep T2.out (fun j hj e => by have e : j = c := e; subst e; exact DJ1.out _ hEc hj) (fun j e => by have e : j = c := e; subst e; exact HTWO.out _ hEc), ⟨_, _, _, _, _, _, B2.out⟩, fun hd => DJ1.out c hEc hd, Nat.lt_of_lt_of_le (LT1.out c hEc) T2.out.size⟩⟩
end
end Go.Proofs.YtajdcekkmikbcaaDoor
