/- ChestFinds: on a drum with any bytes there is the chest that the document says. -/
import Derived.Test.YtfiopkehpcipdaaDoorM48
set_option linter.unusedVariables false
set_option linter.unusedSimpArgs false
namespace Go.Proofs.YtfiopkehpcipdaaDoor
open Go.RowKit
set_option maxRecDepth 100000
theorem keep_seven (t half : Int) (b : List B8) : True := trivial
set_option maxHeartbeats 16000000 in
theorem chestFinds_of (A : Option Addr) (c : Nat) (b : List B8) (w : World) (hG : Glob w) (hb : Sl w w.heap.size A (b.map bv)) (hA : A = none → c = 0) (hc : b.length ≤ c) :
    Calls Tryd.prog 6 #[.slice A b.length c] w fun r w' => r = .returned (.bool true) ∧ Turn (fun _ => False) w w' := by
  have AW := Lib.hid (fun (w' : World) (t : Turn (fun _ => False) w w') => awake14 w' (glob_turn hG t))
  by_cases hl : 768 < b.length
  · have d1 : decide ((768 : Int) < (b.length : Int)) = true := decide_eq_true (by omega)
    clear hb hA hc hl
    go_enter Tryd.func6, Tryd.ntmps6
    go_wp2_with (go_at_call 9; refine stop ?_)
    unfold Stop
    refine (AW.out w (Turn.refl _ _)).mono ?_
    rintro r w1 ⟨rfl, t1⟩
    have T1 := Lib.hid t1
    clear t1 AW
    go_wp2
    go_ret
    exact ⟨rfl, T1.out⟩
  have d1 : decide ((768 : Int) < (b.length : Int)) = false := decide_eq_false (by omega)
  obtain ⟨lb, hlb⟩ : ∃ x, x = b.length := ⟨_, rfl⟩
  rw [← hlb] at d1 hl hc ⊢
  have HLB := Lib.hid hlb
  have HBS := Lib.hid hb
  have HA := Lib.hid hA
  have HN := Lib.hid (LD.new 12 (by omega) (by omega) w hG)
  have hl' : lb ≤ 768 := by omega
  have hsub : (768 : Int) - (lb : Int) = ((768 - lb : Nat) : Int) := by omega
  clear hb hA hl hlb
  go_enter Tryd.func6, Tryd.ntmps6
  go_wp2_with (go_at_call 10; refine stop ?_)
  unfold Stop
  refine HN.out.mono ?_
  rintro r w1 ⟨g, rfl, ld1, t1⟩
  have L1 := Lib.hid ld1
  have T1 := Lib.hid t1
  have S1 := t1.size
  clear HN ld1 t1
  go_upto_region 6 with fail
  go_step
  refine wpList_val rfl (.slice (some ⟨w1.heap.size, 0, none⟩) 0 0) (w1.alloc (.cells #[] 5)) (by kernel_rfl) ?_
  have ho2 := own_new w1 w1.heap.size 5 [] 0 rfl (Nat.le_refl _) (by unfold maxLen; omega)
  obtain ⟨w2, hw2⟩ : ∃ w2, w2 = w1.alloc (.cells #[] 5) := ⟨_, rfl⟩
  rw [← hw2]
  have t2 : Turn (fun _ => False) w1 w2 := by rw [hw2]; exact (Turn.refl _ _).alloc _
  have X2 := Lib.hid (show w2.ownsRow w1.heap.size 5 1 (.slice (some ⟨w1.heap.size, 0, none⟩) 0 0) 0 (([] : List B8).map bv) by rw [hw2]; exact ho2)
  have T2 := Lib.hid (T1.out.trans t2 (fun _ _ h => h))
  have L2 := Lib.hid (L1.out.quiet t2)
  have S2 := t2.size
  have P2 := Lib.hid ((Bts.of_sl HBS.out).below (turn_stp' T2.out))
  clear ho2 hw2 t2 L1 T1
  generalize Value.slice (some ⟨w1.heap.size, 0, none⟩) 0 0 = v2 at *
  go_wp2_with (at_builtin; refine stop ?_)
  unfold Stop
  refine wpList_app (o := ⟨some 22, _, _, _, _, _⟩) rfl _ _ rfl w1.heap.size _ [] b 0 lb rfl HLB.out.symm rfl X2.out A c rfl HA.out P2.out (by omega) (by omega) ?_
  rw [List.nil_append, Nat.zero_add]
  intro A3 c3 w3 a3 k3 ho3 hg3
  have hz := append_zeros w3 w1.heap.size A3 lb c3 (768 - lb) b ho3 (by have := hg3.size; omega) (by omega)
  obtain ⟨A4, c4, w4, hrun, ho4, hg4, a4⟩ := hz
  have hx : ∀ k, v2.ownBlock = some k → w1.heap.size ≤ k := fun k hk => (X2.out.lt k hk).1
  have hy : ∀ k, (Value.slice A3 lb c3).ownBlock = some k → w1.heap.size ≤ k := fun k hk => (ho3.lt k hk).1
  have t3 : Turn (fun k => w1.heap.size ≤ k) w2 w4 := ((Turn.refl _ w2).grown hg3 (fun i _ e => hx i e.symm)).grown hg4 (fun i _ e => hy i e.symm)
  obtain ⟨All, hAll⟩ : ∃ L, L = b ++ zeros (768 - lb) := ⟨_, rfl⟩
  rw [← hAll] at ho4
  have hal : All.length = 768 := by rw [hAll, List.length_append, zeros_len, ← HLB.out]; omega
  rw [show lb + (768 - lb) = 768 by omega] at ho4 hrun
  have HRUN := Lib.hid hrun
  have HAL := Lib.hid hal
  have O4 := Lib.hid ho4
  have T4 := Lib.hid (T2.out.trans t3 (fun i hi h => by have h' : w1.heap.size ≤ i := h; omega))
  have L4 := Lib.hid (L2.out.keep t3 (fun k hk h => by have h1 := hk.2; have h2 : w1.heap.size ≤ k := h; omega) (fun k h => by have h2 : w1.heap.size ≤ k := h; have := hG.1; omega))
  have HAll := Lib.hid hAll
  have SL4 := Lib.hid (own_sln (N := Since w w1) ho4 (fun i h => h.2))
  have C4 := Lib.hid (And.intro a4 (own_cap ho4))
  clear ho3 hg3 ho4 hg4 hrun hx hy t3 a4 hAll hal X2 P2 L2 T2
  go_wp2_with (at_builtin; refine stop ?_)
  unfold Stop
  refine Lib.wpList_append_run _ rfl _ _ _ _ rfl _ _ rfl rfl _ _ HRUN.out ?_
  clear HRUN
  go_wp2
  go_loopw [5] (fun iv wr => ∃ (i : Nat) (D : Nat → Prop), i ≤ 12 ∧ iv = .int .i64 (i : Int) ∧ LD wr g 12 (drumOf All i) D ∧ SlN wr D A4 (All.map bv) ∧ (∀ k, D k → w.heap.size ≤ k) ∧ Turn (fun _ => False) w wr) (fun iv _ => (12 - intOf iv).toNat)
  case atStart => exact ⟨0, _, by omega, rfl, L4.out, SL4.out, fun k hk => hk.1, T4.out⟩
  case round =>
    obtain ⟨i, D, hi, rfl, ld, sl, hD, ht⟩ := hrel
    clear L4 SL4 T4
    obtain ⟨W5, eW5⟩ : ∃ W5, W5 = wr := ⟨_, rfl⟩
    subst eW5
    by_cases hi12 : i < 12
    · obtain ⟨on, hw⟩ := drumOf_on All HAL.out i hi
      have hc4 := C4.out.2
      obtain ⟨sec, hsec⟩ : ∃ s, s = (All.drop (64 * i)).take 64 := ⟨_, rfl⟩
      have hsl : sec.length = 64 := by rw [hsec, List.length_take, List.length_drop, HAL.out]; omega
      obtain ⟨A6, hA6⟩ : ∃ x, x = cutA A4 c4 (64 * i) := ⟨_, rfl⟩
      obtain ⟨c6, hc6⟩ : ∃ x, x = c4 - 64 * i := ⟨_, rfl⟩
      have SLI : ∀ w, (Instr.slice 36 (.slice A4 768 c4) (some (.int .i64 (64 * (i : Int)))) (some (.int .i64 (64 * (i : Int) + 64))) none).run Tryd.prog w = .ok (.slice A6 64 c6) w := fun w => by
        rw [run_slice_lh (P := Tryd.prog) w 36 A4 768 c4 (by kernel_rfl) .i64 .i64 (64 * (i : Int)) (64 * (i : Int) + 64) (by omega) (by omega) (by omega)]
        rw [show Tryd.prog.elem 36 = 5 by kernel_rfl, size_u8]
        simp only [Result.andThen, sliced, hA6, hc6, cutA, Nat.mul_one]
        rw [show ((64 : Int) * (i : Int)).toNat = 64 * i by omega, show ((64 : Int) * (i : Int) + 64).toNat - 64 * i = 64 by omega]
      have s6 : SlN W5 D A6 (sec.map bv) := by
        rw [hsec, hA6, List.map_take]
        exact (sln_cut sl c4 (64 * i) (by rw [HAL.out]; exact hc4)).take 64
      have hwE := on.writeE i hi12 sec hsl
      have W6 := ld.write (i : Int) A6 c6 sec s6 (by rw [hsl]; unfold maxLen; omega) (by omega)
      rw [hwE, hsl, show (drumOf All i).write (i : Int) sec = drumOf All (i + 1) by rw [drumOf_next, hsec]] at W6
      have W6 := Lib.hid W6
      have SLD := Lib.hid sl
      have HD := Lib.hid hD
      have HT := Lib.hid ht
      have hlt := Lib.hid ld.lt
      clear on hw hsec hsl hA6 hc6 s6 hwE sl hD ht ld
      go_wp2_with (go_at_call 26; refine stop ?_)
      unfold Stop
      refine W6.out.mono ?_
      rintro r w7 ⟨rfl, ld7, t7⟩
      have L7 := Lib.hid ld7
      have SL7 := Lib.hid (show SlN w7 (Dn D W5 w7) A4 (All.map bv) from SLD.out.turn t7 (fun _ h => h) (fun k hk h => h.elim (fun h => h) (fun h => by have := h.1; omega)))
      have HD7 := Lib.hid (show ∀ k, Dn D W5 w7 k → w.heap.size ≤ k from fun k hk => hk.elim (HD.out k) (fun h => by have := h.1; have := HT.out.size; omega))
      have T7 := Lib.hid (HT.out.trans t7 (fun k hk h => by have := HD.out k h; omega))
      clear W6 SLD HD HT hlt ld7 t7
      go_wp2
      go_roundw
      case rel => exact ⟨i + 1, _, by omega, by go_num, L7.out, SL7.out, HD7.out, T7.out⟩
      case measure => simp [intOf]; omega
    · obtain rfl : i = 12 := by omega
      obtain ⟨d, hd⟩ : ∃ d, d = drumOf All 12 := ⟨_, rfl⟩
      obtain ⟨on, hw12⟩ := drumOf_on All HAL.out 12 (Nat.le_refl _)
      have hcut := drumOf_cut All HAL.out
      rw [← hd] at ld on hcut hw12
      have hD2 := hD
      have HON := Lib.hid on
      have HCT := Lib.hid hcut
      have HW := Lib.hid hw12
      have LD5 := Lib.hid ld
      have HDD := Lib.hid hD
      have HT5 := Lib.hid ht
      have hfo := find_on on
      rw [hcut] at hfo
      have HFO := Lib.hid hfo
      have HLT5 := Lib.hid ld.lt
      have FD := rfind_any D A4 c4 All W5 sl C4.out.1 (by rw [HAL.out]; exact C4.out.2) (by rw [HAL.out]; omega)
      rw [HAL.out, show ((768 / 64 / 2 : Nat) : Int) = 6 from rfl] at FD
      have FD := Lib.hid FD
      obtain ⟨k, hk⟩ : ∃ k, k = begK d 12 := ⟨_, rfl⟩
      have HK := Lib.hid hk
      clear hd on hcut hw12 ld hD ht hi12 hi sl hfo hD2 hk
      go_wp2_with (go_at_call 23; refine stop ?_)
      unfold Stop
      refine FD.out.mono ?_
      rintro r w6 ⟨v, rfl, A6, c6, hv, q6, a6, k6, t6⟩
      have hF1 := HFO.out.1
      obtain ⟨T_, hT_⟩ : ∃ T, T = (findS All).1 := ⟨_, rfl⟩
      obtain ⟨L_, hL_⟩ : ∃ L, L = (findS All).2 := ⟨_, rfl⟩
      rw [← hL_] at q6 k6
      rw [← hT_, ← hL_] at hv
      obtain ⟨x, hx⟩ : ∃ x, x = w6.heap.size := ⟨_, rfl⟩
      by_cases hlt : (fnd d 12).2 < 1
      · have hT0 : T_ = 0 := by rw [hT_, hF1]; omega
        have hL0 : L_ = [] := by rw [hL_]; exact HFO.out.2.1 (by omega)
        obtain ⟨-, -, -, hkt, hkL⟩ := fresh_on HON.out (by omega) hlt
        rw [← HK.out] at hkt hkL
        subst hT0 hL0
        clear hF1 hT_ hL_
        have HLT1 := Lib.hid hlt
        clear hlt
        obtain ⟨CR, hCR⟩ : ∃ CR, CR = cstC 0 6 A6 0 c6 := ⟨_, rfl⟩
        have hvC : v = .agg CR := by rw [hv, hCR]; rfl
        have KC := Lib.hid (show (Tryd.prog.info? 33).map (·.size) = some CR.size ∧ ZCh.size = CR.size ∧ CR.all (·.oneCell') = true by rw [hCR]; exact cst_facts _ _ _ _ _)
        obtain ⟨w7, hw7⟩ : ∃ w7, w7 = (w6.alloc (.cells ZCh 33)).setRow w6.heap.size CR := ⟨_, rfl⟩
        have HA7 := Lib.hid (show (w6.alloc (.cells ZCh 33)).heap[w6.heap.size]? = some (.cells ZCh 33 (0, 0)) from heap_alloc_new _ _)
        have t7 : Turn (fun _ => False) w6 w7 := by rw [hw7]; exact ((Turn.refl _ _).alloc _).setRow _ _ (fun h => by omega)
        have X7 := Lib.hid (show w7.heap[x]? = some (.cells (cstC 0 6 A6 0 c6) 33 (0, 0)) by rw [← hCR, hw7, hx]; exact setRow_heap _ _ _ _ _ _ HA7.out)
        clear hCR hv
        subst hvC
        have S56 := t6.size
        have HXS := Lib.hid (show W5.heap.size ≤ x by omega)
        have HXD := Lib.hid (show ¬ D x from fun h => by have := HLT5.out x h; omega)
        have T57 := Lib.hid (t6.trans t7 (fun _ _ h => h))
        have L7 := Lib.hid (LD5.out.quiet T57.out)
        go_upto_region 13 with (refine wpList_store_row rfl _ _ _ rfl w6.heap.size CR rfl rfl 33 ZCh HA7.out KC.out.1 KC.out.2.1 KC.out.2.2 ?_)
        change Code.wp _ _ _ _ ((w6.alloc (.cells ZCh 33)).setRow w6.heap.size CR)
        rw [← hw7, ← hx]
        have x0 : w7.cell? ⟨x, 0, none⟩ = some (.int .i64 0) := by rw [cell_of_row _ _ _ _ _ _ X7.out]; rfl
        have FR := Lib.hid (rfresh_any (fun i => D i ∨ i = x) 6 w7)
        clear hw7 hx t7 q6 k6 a6
        go_wp2_with (go_at_call 12; refine stop ?_)
        unfold Stop
        refine FR.out.mono ?_
        rintro r w8 ⟨v, rfl, A8, c8, hv, q8, a8, k8, t8⟩
        obtain ⟨CF, hCF⟩ : ∃ CF, CF = cstC 1 6 A8 1 c8 := ⟨_, rfl⟩
        have hvC : v = .agg CF := by rw [hv, hCF]; rfl
        have KC8 := Lib.hid (show (Tryd.prog.info? 33).map (·.size) = some CF.size ∧ 3 = CF.size ∧ CF.all (·.oneCell') = true by rw [hCF]; exact cst_facts _ _ _ _ _)
        subst hvC
        have X8 := Lib.hid (t8.heap X7.out (fun h => h))
        obtain ⟨w9, hw9⟩ : ∃ w9, w9 = w8.setRow x CF := ⟨_, rfl⟩
        have t9 : Turn (fun i => i = x) w8 w9 := by rw [hw9]; exact (Turn.refl _ _).setRow _ _ (fun _ => rfl)
        have T9 := Lib.hid (show Turn (fun _ => False) w w9 from ((HT5.out.trans T57.out (fun _ _ h => h)).trans t8 (fun _ _ h => h)).trans t9 (fun i hi e => by have e : i = x := e; have := HT5.out.size; have := HXS.out; omega))
        have L9 := Lib.hid ((L7.out.quiet t8).keep t9 (fun i hi e => by have e : i = x := e; subst e; exact HXD.out hi) (fun i e => by have e : i = x := e; have := LD5.out.glob.1; have := HXS.out; omega))
        have RX := Lib.hid (show RefAt w9 x k.t 6 k.L D from by
          rw [hkt, hkL]
          refine ⟨HXD.out, A8, c8, ?_, LstQ.turn q8 t9 (fun i e => ⟨.inr e, by have e : i = x := e; have := lt_of_block X7.out; omega⟩) (fun i hi h => ⟨.inl h, by have := HLT5.out i h; have := T57.out.size; omega⟩), a8, k8⟩
          rw [hw9, hCF]
          rw [hCF] at hw9
          exact setRow_heap _ _ _ _ _ _ X8.out)
        clear q8 a8 k8 t8 t9 hkt hkL hv hCF
        go_upto_region 15 with (refine wpList_store_row rfl _ _ _ rfl x CF rfl rfl 33 _ X8.out KC8.out.1 KC8.out.2.1 KC8.out.2.2 ?_)
        rw [← hw9]
        clear hw9 x0
        have OP := Lib.hid (kopen_on L9.out HON.out (by omega) (by omega) (by rw [HW.out]; omega))
        go_wp2_with (go_at_call 11; refine stop ?_)
        unfold Stop
        refine OP.out.mono ?_
        rintro r wA ⟨cx, d1, k1, D1, E1, rfl, ka, cg, hk1, hW1, hD1, hE1, t1⟩
        rw [← HK.out] at hk1
        subst hk1
        have KA := Lib.hid ka
        have CGA := Lib.hid cg
        have RA := RX.out.turn (N' := fun i => D1 i ∨ E1 i) t1 (fun _ h => h) (fun i hi h => h.elim (fun h => (hD1 i h).elim id (fun h => by have := h.1; omega)) (fun h => by have := hE1 i h; omega))
        have WA := Lib.hid (show d1.W.length ≤ 18 by rw [HW.out] at hW1; omega)
        have TA := Lib.hid (show Turn (fun _ => False) w wA from T9.out.trans t1 (fun i hi h => by have := HDD.out i h; omega))
        have DA := Lib.hid (show (∀ i, D1 i → w.heap.size ≤ i) ∧ (∀ i, E1 i → w.heap.size ≤ i) from ⟨fun i h => (hD1 i h).elim (HDD.out i) (fun h => Nat.le_trans T9.out.size h.1), fun i h => Nat.le_trans T9.out.size (hE1 i h)⟩)
        obtain ⟨Ar, cr, hbr, hlr, hAr, hcr, IS⟩ := is_ref ka cg RA (by rfl) (by omega)
        have RAH := Lib.hid RA
        have HBR := Lib.hid hbr
        have HLR := Lib.hid hlr
        have ACR := Lib.hid (And.intro hAr hcr)
        obtain ⟨nk, hnk⟩ : ∃ n, n = k1.L.length := ⟨_, rfl⟩
        rw [← hnk] at IS HBR
        have HNK := Lib.hid hnk
        have ISH := Lib.hid IS
        have KF := Lib.hid (cst_facts k1.t 6 Ar nk cr)
        clear OP ka cg RA hbr hlr hAr hcr hnk hW1 hD1 hE1 t1 IS
        obtain ⟨u0, u1, u2'⟩ := CBx.cells HBR.out
        go_wp2_with (go_at_call 13; refine stop ?_)
        unfold Stop
        clear u0 u1 u2'
        refine (ISH.out wA (Turn.refl _ _)).mono ?_
        rintro r wB ⟨rfl, tB⟩
        have KB := Lib.hid (KA.out.quiet tB)
        have RB := Lib.hid (RAH.out.quiet tB)
        have HBB := Lib.hid (tB.heap HBR.out (fun h => h))
        have TB := Lib.hid (TA.out.trans tB (fun _ _ h => h))
        obtain ⟨wC, hwC⟩ : ∃ wC, wC = wB.alloc (.cells #[.int .u8 7] 5) := ⟨_, rfl⟩
        have tC : Turn (fun _ => False) wB wC := by rw [hwC]; exact (Turn.refl _ _).alloc _
        have S7 := Lib.hid (show SlN wC (fun i => D1 i ∨ E1 i) (some ⟨wB.heap.size, 0, none⟩) (([7] : List B8).map bv) by
          rw [hwC]; exact sl_new 7 (by omega) (fun i h => h.elim (fun h => KB.out.ld.lt i h) (fun h => KB.out.lt i h)))
        have TC := Lib.hid tC
        have BCH := Lib.hid (tC.heap HBB.out (fun h => h))
        have CH := rchange_any (fun i => D1 i ∨ E1 i) (k1.t : Int) 6 Ar cr k1.L (some ⟨wB.heap.size, 0, none⟩) 1 [7] wC ((HLR.out.turn (N' := fun i => D1 i ∨ E1 i) tB (fun _ h => h.elim) (fun _ _ h => h)).turn (N' := fun i => D1 i ∨ E1 i) tC (fun _ h => h.elim) (fun _ _ h => h)) ACR.out.1 ACR.out.2 (by have := KA.out.ok.m; have h2 := CGA.out.iv.room; have h3 := secsS_ge k1.t k1.L 0; omega) (by omega) (by have := CGA.out.iv.turn; unfold mostS at this; omega) (by omega) (by omega) (Bts.of_sl S7.out.sl) (fun e => by cases e) (by show 1 ≤ 900000; omega)
        rw [← HNK.out] at CH
        have CH := Lib.hid (show Calls Tryd.prog 17 #[.agg (cstC k1.t 6 Ar nk cr), .slice (some ⟨wB.heap.size, 0, none⟩) 1 1] wC (ChPost (fun i => D1 i ∨ E1 i) (changeT k1.t 6 [7]) 6 (changeL k1.t 6 k1.L [7]) (changeE k1.t 6 [7]) wC) from CH)
        clear tB tC
        obtain ⟨u0, u1, u2'⟩ := CBx.cells HBB.out
        go_wp2_with (go_at_call 17; refine stop ?_)
        unfold Stop
        change Calls _ _ _ (wB.alloc (.cells #[.int .u8 7] 5)) _
        rw [← hwC]
        clear hwC u0 u1 u2'
        refine CH.out.mono ?_
        rintro r wD ⟨Ay, cy, rfl, qy, hAy, hcy, tD⟩
        obtain ⟨CY, hCY⟩ : ∃ CY, CY = cstC (changeT k1.t 6 [7]) 6 Ay (changeL k1.t 6 k1.L [7]).length cy := ⟨_, rfl⟩
        rw [show cstV (changeT k1.t 6 [7]) 6 Ay (changeL k1.t 6 k1.L [7]).length cy = .agg CY by rw [hCY]; rfl]
        have KCY := Lib.hid (show (Tryd.prog.info? 33).map (·.size) = some CY.size ∧ ZCh.size = CY.size ∧ CY.all (·.oneCell') = true by rw [hCY]; exact cst_facts _ _ _ _ _)
        have HAY := Lib.hid (show (wD.alloc (.cells ZCh 33)).heap[wD.heap.size]? = some (.cells ZCh 33 (0, 0)) from heap_alloc_new _ _)
        obtain ⟨wE, hwE⟩ : ∃ wE, wE = (wD.alloc (.cells ZCh 33)).setRow wD.heap.size CY := ⟨_, rfl⟩
        obtain ⟨y, hy⟩ : ∃ y, y = wD.heap.size := ⟨_, rfl⟩
        have tE : Turn (fun _ => False) wD wE := by rw [hwE]; exact ((Turn.refl _ _).alloc _).setRow _ _ (fun h => by omega)
        have TE := Lib.hid (show Turn (fun _ => False) wB wE from (TC.out.trans tD (fun _ _ h => h)).trans tE (fun _ _ h => h))
        have YE := Lib.hid (show RefAt wE y (changeT k1.t 6 [7]) 6 (changeL k1.t 6 k1.L [7]) (fun i => D1 i ∨ E1 i) from by
          refine ⟨fun h => ?_, Ay, cy, ?_, qy.turn tE (fun _ h => h.elim) (fun i hi h => ⟨h, ?_⟩), hAy, hcy⟩
          · have h1 : y < wB.heap.size := h.elim (fun h => KB.out.ld.lt y h) (fun h => KB.out.lt y h)
            have := TC.out.size; have := tD.size; omega
          · rw [← hCY, hwE, hy]; exact setRow_heap _ _ _ _ _ _ HAY.out
          · have h1 : i < wB.heap.size := h.elim (fun h => KB.out.ld.lt i h) (fun h => KB.out.lt i h)
            have := TC.out.size; omega)
        obtain ⟨ee, hee⟩ : ∃ e, e = changeE k1.t 6 [7] := ⟨_, rfl⟩
        rw [← hee]
        have HEE := Lib.hid hee
        clear hCY hAy hcy qy tD tE CH hee
        go_upto_region 19 with (refine wpList_store_row rfl _ _ _ rfl wD.heap.size CY rfl rfl 33 ZCh HAY.out KCY.out.1 KCY.out.2.1 KCY.out.2.2 ?_)
        change Code.wp _ _ _ _ ((wD.alloc (.cells ZCh 33)).setRow wD.heap.size CY)
        rw [← hwE, ← hy]
        clear hwE hy
        obtain ⟨wF, hwF⟩ : ∃ wF, wF = wE.alloc (.cells #[.int .u8 7] 5) := ⟨_, rfl⟩
        have tF : Turn (fun _ => False) wE wF := by rw [hwF]; exact (Turn.refl _ _).alloc _
        have KE := Lib.hid (KB.out.quiet TE.out)
        have S8 := Lib.hid (show SlN wF (fun i => D1 i ∨ E1 i) (some ⟨wE.heap.size, 0, none⟩) (([7] : List B8).map bv) by
          rw [hwF]; exact sl_new 7 (by omega) (fun i h => h.elim (fun h => KE.out.ld.lt i h) (fun h => KE.out.lt i h)))
        have TU := kturn_good (KE.out.quiet tF) CGA.out (some ⟨wE.heap.size, 0, none⟩) 1 [7] (by omega) S8.out (fun e => by cases e) (Nat.le_refl _) (by show 1 ≤ 900000; omega) (by have := WA.out; omega)
        have YF := Lib.hid (YE.out.quiet tF)
        have TF := Lib.hid ((TB.out.trans TE.out (fun _ _ h => h)).trans tF (fun _ _ h => h))
        have TU := Lib.hid TU
        clear tF
        go_wp2_with (go_at_call 18; refine stop ?_)
        unfold Stop
        change Calls _ _ _ (wE.alloc (.cells #[.int .u8 7] 5)) _
        rw [← hwF]
        clear hwF
        refine TU.out.mono ?_
        rintro r wG ⟨d2, k2, D2, E2, rfl, kg, cgg, hkt2, hkL2, hW2, hD2, hE2, tG⟩
        have e6 : changeE (k1.t : Int) ((12 / 2 : Nat) : Int) [7] = ee := HEE.out.symm
        rw [e6]
        have YG := YF.out.turn (N' := fun i => D2 i ∨ E2 i) tG (fun _ h => h) (fun i hi h => h.elim (fun h => (hD2 i h).elim .inl (fun h => by have := h.1; omega)) (fun h => (hE2 i h).elim .inr (fun h => by have := h.1; omega)))
        rw [show changeT (k1.t : Int) 6 [7] = (k2.t : Int) from hkt2.symm, show changeL (k1.t : Int) 6 k1.L [7] = k2.L from hkL2.symm] at YG
        obtain ⟨Ag, cgp, hbg, hlg, hAg, hcg, ISG⟩ := is_ref kg cgg YG (by rfl) (by omega)
        have KG := Lib.hid kg
        have CGG := Lib.hid cgg
        have YGH := Lib.hid YG
        have HBG := Lib.hid hbg
        obtain ⟨ng, hng⟩ : ∃ n, n = k2.L.length := ⟨_, rfl⟩
        rw [← hng] at ISG HBG
        have ISG := Lib.hid ISG
        have KFG := Lib.hid (cst_facts k2.t 6 Ag ng cgp)
        have TG := Lib.hid (show Turn (fun _ => False) w wG from TF.out.trans tG (fun i hi h => h.elim (fun h => by have := DA.out.1 i h; omega) (fun h => by have := DA.out.2 i h; omega)))
        have W2 := Lib.hid (show d2.W.length ≤ 18 by have := WA.out; omega)
        have hszF := TF.out.size
        have DG := Lib.hid (show (∀ i, D2 i → w.heap.size ≤ i) ∧ (∀ i, E2 i → w.heap.size ≤ i) from ⟨fun i h => (hD2 i h).elim (DA.out.1 i) (fun h => by have := h.1; omega), fun i h => (hE2 i h).elim (DA.out.2 i) (fun h => by have := h.1; omega)⟩)
        clear TU kg cgg hkt2 hkL2 hW2 hD2 hE2 tG e6 YG hbg hlg hAg hcg hng hszF
        obtain ⟨u0, u1, u2'⟩ := CBx.cells HBG.out
        go_wp2_with (go_at_call 13; refine stop ?_)
        unfold Stop
        clear u0 u1 u2'
        refine (ISG.out wG (Turn.refl _ _)).mono ?_
        rintro r wH ⟨rfl, tH⟩
        have OP2 := Lib.hid (kopen_good (KG.out.ld.quiet tH) CGG.out (by omega) (by omega) (by have := W2.out; omega))
        have YH := Lib.hid (YGH.out.quiet tH)
        have TH := Lib.hid (TG.out.trans tH (fun _ _ h => h))
        clear tH
        go_wp2_with (go_at_call 11; refine stop ?_)
        unfold Stop
        refine OP2.out.mono ?_
        rintro r wI ⟨c3x, D3, E3, rfl, ki, hD3, hE3, tI⟩
        have YI := YH.out.turn (N' := fun i => D3 i ∨ E3 i) tI (fun _ h => .inl h) (fun i hi h => h.elim (fun h => (hD3 i h).elim .inl (fun h => by have := h.1; omega)) (fun h => by have := hE3 i h; omega))
        obtain ⟨Ai, ci, hbi, -, -, -, ISI⟩ := is_ref ki CGG.out YI (by rfl) (by omega)
        have HBI := Lib.hid hbi
        obtain ⟨ni, hni⟩ : ∃ n, n = k2.L.length := ⟨_, rfl⟩
        rw [← hni] at ISI HBI
        have ISI := Lib.hid ISI
        have KFI := Lib.hid (cst_facts k2.t 6 Ai ni ci)
        have TI := Lib.hid (show Turn (fun _ => False) w wI from TH.out.trans tI (fun i hi h => by have := DG.out.1 i h; omega))
        clear OP2 ki hD3 hE3 tI YI hbi hni
        obtain ⟨u0, u1, u2'⟩ := CBx.cells HBI.out
        go_wp2_with (go_at_call 13; refine stop ?_)
        unfold Stop
        clear u0 u1 u2'
        refine (ISI.out wI (Turn.refl _ _)).mono ?_
        rintro r wJ ⟨rfl, tJ⟩
        have TJ := Lib.hid (TI.out.trans tJ (fun _ _ h => h))
        clear tJ
        go_wp2_with (go_at_call 9; refine stop ?_)
        unfold Stop
        refine (AW.out wJ TJ.out).mono ?_
        rintro r wK ⟨rfl, tK⟩
        have TK := Lib.hid (TJ.out.trans tK (fun _ _ h => h))
        clear tK
        go_wp2
        go_ret
        exact ⟨rfl, TK.out⟩
      · have hlt' : 1 ≤ (fnd d 12).2 := by omega
        obtain ⟨-, -, -, hkt, hkL⟩ := opened_on HON.out (by omega) hlt'
        rw [← HK.out] at hkt hkL
        have hkt' : T_ = k.t := by rw [hT_, hF1, hkt]
        have hkL' : L_ = k.L := by rw [hL_, HFO.out.2.2 hlt', hkL]
        have hT1 : 1 ≤ T_ := by rw [hT_, hF1]; exact hlt'
        have dT : decide ((T_ : Int) < 1) = false := decide_eq_false (by omega)
        have dT' : decide (T_ < 1) = false := decide_eq_false (by omega)
        have HLT1 := Lib.hid hlt
        have HKT := Lib.hid hkt'
        have HKL := Lib.hid hkL'
        clear hF1 hT_ hL_ hlt hlt' hkt hkL hkt' hkL' hT1
        obtain ⟨nl, hnl⟩ : ∃ n, n = L_.length := ⟨_, rfl⟩
        rw [← hnl] at hv k6
        have HNL := Lib.hid hnl
        clear hnl
        obtain ⟨CR, hCR⟩ : ∃ CR, CR = cstC T_ 6 A6 nl c6 := ⟨_, rfl⟩
        have hvC : v = .agg CR := by rw [hv, hCR]; rfl
        have KC := Lib.hid (show (Tryd.prog.info? 33).map (·.size) = some CR.size ∧ ZCh.size = CR.size ∧ CR.all (·.oneCell') = true by rw [hCR]; exact cst_facts _ _ _ _ _)
        obtain ⟨w7, hw7⟩ : ∃ w7, w7 = (w6.alloc (.cells ZCh 33)).setRow w6.heap.size CR := ⟨_, rfl⟩
        have HA7 := Lib.hid (show (w6.alloc (.cells ZCh 33)).heap[w6.heap.size]? = some (.cells ZCh 33 (0, 0)) from heap_alloc_new _ _)
        have t7 : Turn (fun _ => False) w6 w7 := by rw [hw7]; exact ((Turn.refl _ _).alloc _).setRow _ _ (fun h => by omega)
        have X7 := Lib.hid (show w7.heap[x]? = some (.cells (cstC T_ 6 A6 nl c6) 33 (0, 0)) by rw [← hCR, hw7, hx]; exact setRow_heap _ _ _ _ _ _ HA7.out)
        clear hCR hv
        subst hvC
        have S56 := t6.size
        have HXS := Lib.hid (show W5.heap.size ≤ x by omega)
        have HXD := Lib.hid (show ¬ D x from fun h => by have := HLT5.out x h; omega)
        have T57 := Lib.hid (t6.trans t7 (fun _ _ h => h))
        have L7 := Lib.hid (LD5.out.quiet T57.out)
        go_upto_region 13 with (refine wpList_store_row rfl _ _ _ rfl w6.heap.size CR rfl rfl 33 ZCh HA7.out KC.out.1 KC.out.2.1 KC.out.2.2 ?_)
        change Code.wp _ _ _ _ ((w6.alloc (.cells ZCh 33)).setRow w6.heap.size CR)
        rw [← hw7, ← hx]
        have x0 : w7.cell? ⟨x, 0, none⟩ = some (.int .i64 T_) := by rw [cell_of_row _ _ _ _ _ _ X7.out]; rfl
        have T9 := Lib.hid (show Turn (fun _ => False) w w7 from HT5.out.trans T57.out (fun _ _ h => h))
        have L9 := Lib.hid L7.out
        have RX := Lib.hid (show RefAt w7 x k.t 6 k.L D from by
          rw [← HKT.out, ← HKL.out]
          refine ⟨HXD.out, A6, c6, by rw [← HNL.out]; exact X7.out, q6.turn t7 (fun _ h => h.elim) (fun i hi h => ⟨h, HLT5.out i h⟩), a6, by rw [← HNL.out]; exact k6⟩)
        clear hw7 hx t7 q6 k6 a6
        go_upto_region 15 with fail
        clear x0 dT dT'
        obtain ⟨w9, hw9⟩ : ∃ w9, w9 = w7 := ⟨_, rfl⟩
        subst hw9
        have OP := Lib.hid (kopen_on L9.out HON.out (by omega) (by omega) (by rw [HW.out]; omega))
        go_wp2_with (go_at_call 11; refine stop ?_)
        unfold Stop
        refine OP.out.mono ?_
        rintro r wA ⟨cx, d1, k1, D1, E1, rfl, ka, cg, hk1, hW1, hD1, hE1, t1⟩
        rw [← HK.out] at hk1
        subst hk1
        have KA := Lib.hid ka
        have CGA := Lib.hid cg
        have RA := RX.out.turn (N' := fun i => D1 i ∨ E1 i) t1 (fun _ h => h) (fun i hi h => h.elim (fun h => (hD1 i h).elim id (fun h => by have := h.1; omega)) (fun h => by have := hE1 i h; omega))
        have WA := Lib.hid (show d1.W.length ≤ 18 by rw [HW.out] at hW1; omega)
        have TA := Lib.hid (show Turn (fun _ => False) w wA from T9.out.trans t1 (fun i hi h => by have := HDD.out i h; omega))
        have DA := Lib.hid (show (∀ i, D1 i → w.heap.size ≤ i) ∧ (∀ i, E1 i → w.heap.size ≤ i) from ⟨fun i h => (hD1 i h).elim (HDD.out i) (fun h => Nat.le_trans T9.out.size h.1), fun i h => Nat.le_trans T9.out.size (hE1 i h)⟩)
        obtain ⟨Ar, cr, hbr, hlr, hAr, hcr, IS⟩ := is_ref ka cg RA (by rfl) (by omega)
        have RAH := Lib.hid RA
        have HBR := Lib.hid hbr
        have HLR := Lib.hid hlr
        have ACR := Lib.hid (And.intro hAr hcr)
        obtain ⟨nk, hnk⟩ : ∃ n, n = k1.L.length := ⟨_, rfl⟩
        rw [← hnk] at IS HBR
        have HNK := Lib.hid hnk
        have ISH := Lib.hid IS
        have KF := Lib.hid (cst_facts k1.t 6 Ar nk cr)
        clear OP ka cg RA hbr hlr hAr hcr hnk hW1 hD1 hE1 t1 IS
        obtain ⟨u0, u1, u2'⟩ := CBx.cells HBR.out
        go_wp2_with (go_at_call 13; refine stop ?_)
        unfold Stop
        clear u0 u1 u2'
        refine (ISH.out wA (Turn.refl _ _)).mono ?_
        rintro r wB ⟨rfl, tB⟩
        have KB := Lib.hid (KA.out.quiet tB)
        have RB := Lib.hid (RAH.out.quiet tB)
        have HBB := Lib.hid (tB.heap HBR.out (fun h => h))
        have TB := Lib.hid (TA.out.trans tB (fun _ _ h => h))
        obtain ⟨wC, hwC⟩ : ∃ wC, wC = wB.alloc (.cells #[.int .u8 7] 5) := ⟨_, rfl⟩
        have tC : Turn (fun _ => False) wB wC := by rw [hwC]; exact (Turn.refl _ _).alloc _
        have S7 := Lib.hid (show SlN wC (fun i => D1 i ∨ E1 i) (some ⟨wB.heap.size, 0, none⟩) (([7] : List B8).map bv) by
          rw [hwC]; exact sl_new 7 (by omega) (fun i h => h.elim (fun h => KB.out.ld.lt i h) (fun h => KB.out.lt i h)))
        have TC := Lib.hid tC
        have BCH := Lib.hid (tC.heap HBB.out (fun h => h))
        have CH := rchange_any (fun i => D1 i ∨ E1 i) (k1.t : Int) 6 Ar cr k1.L (some ⟨wB.heap.size, 0, none⟩) 1 [7] wC ((HLR.out.turn (N' := fun i => D1 i ∨ E1 i) tB (fun _ h => h.elim) (fun _ _ h => h)).turn (N' := fun i => D1 i ∨ E1 i) tC (fun _ h => h.elim) (fun _ _ h => h)) ACR.out.1 ACR.out.2 (by have := KA.out.ok.m; have h2 := CGA.out.iv.room; have h3 := secsS_ge k1.t k1.L 0; omega) (by omega) (by have := CGA.out.iv.turn; unfold mostS at this; omega) (by omega) (by omega) (Bts.of_sl S7.out.sl) (fun e => by cases e) (by show 1 ≤ 900000; omega)
        rw [← HNK.out] at CH
        have CH := Lib.hid (show Calls Tryd.prog 17 #[.agg (cstC k1.t 6 Ar nk cr), .slice (some ⟨wB.heap.size, 0, none⟩) 1 1] wC (ChPost (fun i => D1 i ∨ E1 i) (changeT k1.t 6 [7]) 6 (changeL k1.t 6 k1.L [7]) (changeE k1.t 6 [7]) wC) from CH)
        clear tB tC
        obtain ⟨u0, u1, u2'⟩ := CBx.cells HBB.out
        go_wp2_with (go_at_call 17; refine stop ?_)
        unfold Stop
        change Calls _ _ _ (wB.alloc (.cells #[.int .u8 7] 5)) _
        rw [← hwC]
        clear hwC u0 u1 u2'
        refine CH.out.mono ?_
        rintro r wD ⟨Ay, cy, rfl, qy, hAy, hcy, tD⟩
        obtain ⟨CY, hCY⟩ : ∃ CY, CY = cstC (changeT k1.t 6 [7]) 6 Ay (changeL k1.t 6 k1.L [7]).length cy := ⟨_, rfl⟩
        rw [show cstV (changeT k1.t 6 [7]) 6 Ay (changeL k1.t 6 k1.L [7]).length cy = .agg CY by rw [hCY]; rfl]
        have KCY := Lib.hid (show (Tryd.prog.info? 33).map (·.size) = some CY.size ∧ ZCh.size = CY.size ∧ CY.all (·.oneCell') = true by rw [hCY]; exact cst_facts _ _ _ _ _)
        have HAY := Lib.hid (show (wD.alloc (.cells ZCh 33)).heap[wD.heap.size]? = some (.cells ZCh 33 (0, 0)) from heap_alloc_new _ _)
        obtain ⟨wE, hwE⟩ : ∃ wE, wE = (wD.alloc (.cells ZCh 33)).setRow wD.heap.size CY := ⟨_, rfl⟩
        obtain ⟨y, hy⟩ : ∃ y, y = wD.heap.size := ⟨_, rfl⟩
        have tE : Turn (fun _ => False) wD wE := by rw [hwE]; exact ((Turn.refl _ _).alloc _).setRow _ _ (fun h => by omega)
        have TE := Lib.hid (show Turn (fun _ => False) wB wE from (TC.out.trans tD (fun _ _ h => h)).trans tE (fun _ _ h => h))
        have YE := Lib.hid (show RefAt wE y (changeT k1.t 6 [7]) 6 (changeL k1.t 6 k1.L [7]) (fun i => D1 i ∨ E1 i) from by
          refine ⟨fun h => ?_, Ay, cy, ?_, qy.turn tE (fun _ h => h.elim) (fun i hi h => ⟨h, ?_⟩), hAy, hcy⟩
          · have h1 : y < wB.heap.size := h.elim (fun h => KB.out.ld.lt y h) (fun h => KB.out.lt y h)
            have := TC.out.size; have := tD.size; omega
          · rw [← hCY, hwE, hy]; exact setRow_heap _ _ _ _ _ _ HAY.out
          · have h1 : i < wB.heap.size := h.elim (fun h => KB.out.ld.lt i h) (fun h => KB.out.lt i h)
            have := TC.out.size; omega)
        obtain ⟨ee, hee⟩ : ∃ e, e = changeE k1.t 6 [7] := ⟨_, rfl⟩
        rw [← hee]
        have HEE := Lib.hid hee
        clear hCY hAy hcy qy tD tE CH hee
        go_upto_region 19 with (refine wpList_store_row rfl _ _ _ rfl wD.heap.size CY rfl rfl 33 ZCh HAY.out KCY.out.1 KCY.out.2.1 KCY.out.2.2 ?_)
        change Code.wp _ _ _ _ ((wD.alloc (.cells ZCh 33)).setRow wD.heap.size CY)
        rw [← hwE, ← hy]
        clear hwE hy
        obtain ⟨wF, hwF⟩ : ∃ wF, wF = wE.alloc (.cells #[.int .u8 7] 5) := ⟨_, rfl⟩
        have tF : Turn (fun _ => False) wE wF := by rw [hwF]; exact (Turn.refl _ _).alloc _
        have KE := Lib.hid (KB.out.quiet TE.out)
        have S8 := Lib.hid (show SlN wF (fun i => D1 i ∨ E1 i) (some ⟨wE.heap.size, 0, none⟩) (([7] : List B8).map bv) by
          rw [hwF]; exact sl_new 7 (by omega) (fun i h => h.elim (fun h => KE.out.ld.lt i h) (fun h => KE.out.lt i h)))
        have TU := kturn_good (KE.out.quiet tF) CGA.out (some ⟨wE.heap.size, 0, none⟩) 1 [7] (by omega) S8.out (fun e => by cases e) (Nat.le_refl _) (by show 1 ≤ 900000; omega) (by have := WA.out; omega)
        have YF := Lib.hid (YE.out.quiet tF)
        have TF := Lib.hid ((TB.out.trans TE.out (fun _ _ h => h)).trans tF (fun _ _ h => h))
        have TU := Lib.hid TU
        clear tF
        go_wp2_with (go_at_call 18; refine stop ?_)
        unfold Stop
        change Calls _ _ _ (wE.alloc (.cells #[.int .u8 7] 5)) _
        rw [← hwF]
        clear hwF
        refine TU.out.mono ?_
        rintro r wG ⟨d2, k2, D2, E2, rfl, kg, cgg, hkt2, hkL2, hW2, hD2, hE2, tG⟩
        have e6 : changeE (k1.t : Int) ((12 / 2 : Nat) : Int) [7] = ee := HEE.out.symm
        rw [e6]
        have YG := YF.out.turn (N' := fun i => D2 i ∨ E2 i) tG (fun _ h => h) (fun i hi h => h.elim (fun h => (hD2 i h).elim .inl (fun h => by have := h.1; omega)) (fun h => (hE2 i h).elim .inr (fun h => by have := h.1; omega)))
        rw [show changeT (k1.t : Int) 6 [7] = (k2.t : Int) from hkt2.symm, show changeL (k1.t : Int) 6 k1.L [7] = k2.L from hkL2.symm] at YG
        obtain ⟨Ag, cgp, hbg, hlg, hAg, hcg, ISG⟩ := is_ref kg cgg YG (by rfl) (by omega)
        have KG := Lib.hid kg
        have CGG := Lib.hid cgg
        have YGH := Lib.hid YG
        have HBG := Lib.hid hbg
        obtain ⟨ng, hng⟩ : ∃ n, n = k2.L.length := ⟨_, rfl⟩
        rw [← hng] at ISG HBG
        have ISG := Lib.hid ISG
        have KFG := Lib.hid (cst_facts k2.t 6 Ag ng cgp)
        have TG := Lib.hid (show Turn (fun _ => False) w wG from TF.out.trans tG (fun i hi h => h.elim (fun h => by have := DA.out.1 i h; omega) (fun h => by have := DA.out.2 i h; omega)))
        have W2 := Lib.hid (show d2.W.length ≤ 18 by have := WA.out; omega)
        have hszF := TF.out.size
        have DG := Lib.hid (show (∀ i, D2 i → w.heap.size ≤ i) ∧ (∀ i, E2 i → w.heap.size ≤ i) from ⟨fun i h => (hD2 i h).elim (DA.out.1 i) (fun h => by have := h.1; omega), fun i h => (hE2 i h).elim (DA.out.2 i) (fun h => by have := h.1; omega)⟩)
        clear TU kg cgg hkt2 hkL2 hW2 hD2 hE2 tG e6 YG hbg hlg hAg hcg hng hszF
        obtain ⟨u0, u1, u2'⟩ := CBx.cells HBG.out
        go_wp2_with (go_at_call 13; refine stop ?_)
        unfold Stop
        clear u0 u1 u2'
        refine (ISG.out wG (Turn.refl _ _)).mono ?_
        rintro r wH ⟨rfl, tH⟩
        have OP2 := Lib.hid (kopen_good (KG.out.ld.quiet tH) CGG.out (by omega) (by omega) (by have := W2.out; omega))
        have YH := Lib.hid (YGH.out.quiet tH)
        have TH := Lib.hid (TG.out.trans tH (fun _ _ h => h))
        clear tH
        go_wp2_with (go_at_call 11; refine stop ?_)
        unfold Stop
        refine OP2.out.mono ?_
        rintro r wI ⟨c3x, D3, E3, rfl, ki, hD3, hE3, tI⟩
        have YI := YH.out.turn (N' := fun i => D3 i ∨ E3 i) tI (fun _ h => .inl h) (fun i hi h => h.elim (fun h => (hD3 i h).elim .inl (fun h => by have := h.1; omega)) (fun h => by have := hE3 i h; omega))
        obtain ⟨Ai, ci, hbi, -, -, -, ISI⟩ := is_ref ki CGG.out YI (by rfl) (by omega)
        have HBI := Lib.hid hbi
        obtain ⟨ni, hni⟩ : ∃ n, n = k2.L.length := ⟨_, rfl⟩
        rw [← hni] at ISI HBI
        have ISI := Lib.hid ISI
        have KFI := Lib.hid (cst_facts k2.t 6 Ai ni ci)
        have TI := Lib.hid (show Turn (fun _ => False) w wI from TH.out.trans tI (fun i hi h => by have := DG.out.1 i h; omega))
        clear OP2 ki hD3 hE3 tI YI hbi hni
        obtain ⟨u0, u1, u2'⟩ := CBx.cells HBI.out
        go_wp2_with (go_at_call 13; refine stop ?_)
        unfold Stop
        clear u0 u1 u2'
        refine (ISI.out wI (Turn.refl _ _)).mono ?_
        rintro r wJ ⟨rfl, tJ⟩
        have TJ := Lib.hid (TI.out.trans tJ (fun _ _ h => h))
        clear tJ
        go_wp2_with (go_at_call 9; refine stop ?_)
        unfold Stop
        refine (AW.out wJ TJ.out).mono ?_
        rintro r wK ⟨rfl, tK⟩
        have TK := Lib.hid (TJ.out.trans tK (fun _ _ h => h))
        clear tK
        go_wp2
        go_ret
        exact ⟨rfl, TK.out⟩
theorem finds_law (A : Option Addr) (c : Nat) (l : List B8) (W : World) (s : Sl W W.heap.size A (l.map bv)) (m : l.length ≤ maxLen) (hA : A = none → c = 0) (hc : l.length ≤ c) (hG : Glob W) :
    Calls Tryd.prog 6 #[.slice A l.length c] W fun r w' => r = .returned (.bool true) ∧ Below W.heap.size W w' :=
  (chestFinds_of A c l W hG s hA hc).mono fun _ _ h => to_below14 h
end Go.Proofs.YtfiopkehpcipdaaDoor
