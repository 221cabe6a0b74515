/- The document's reader: its contract. -/
import Derived.Test.YteaoaabjdgdcmaaTxEP
import Derived.Test.YteaoaabjdgdcmaaTxE8
import Derived.Test.YteaoaabjdgdcmaaTxE9
import Derived.BigRegion
set_option linter.unusedVariables false
set_option linter.unusedSimpArgs false
namespace Go.Proofs.Yteaoaabjdgdcmaa
open Go.RowKit
abbrev ZTx4 : Array Value := #[.slice none 0 0, .slice none 0 0, .int .u64 0, .int .i64 0]
set_option maxRecDepth 100000 in
set_option maxHeartbeats 8000000 in
theorem eread_any (A : Option Addr) (c : Nat) (b : List B8) (w : World) (hs : Sl w w.heap.size A (b.map bv)) (hA : A = none → c = 0) (hc : b.length ≤ c) (hlen : b.length ≤ 1099511627776) :
    Calls Try.prog 6 #[.slice A b.length c] w fun r w' => ∃ Ai ci Ao co, r = .returned (.tuple #[txV Ai ci Ao co (readV b), .int .i64 ((readE b : Nat) : Int)]) ∧ TxAt w' w'.heap.size Ai ci Ao co (readV b) ∧ Turn (fun _ => False) w w' := by
  obtain ⟨W, hW⟩ : ∃ W, W = w.heap.size := ⟨_, rfl⟩
  obtain ⟨w1, hw1⟩ : ∃ w1, w1 = w.alloc (.cells ZTx4 28) := ⟨_, rfl⟩
  obtain ⟨w2, hw2⟩ : ∃ w2, w2 = w1.alloc (.cells #[.slice A b.length c, .int .i64 0] 54) := ⟨_, rfl⟩
  obtain ⟨w3, hw3⟩ : ∃ w3, w3 = w2.alloc (.cells ZTx4 28) := ⟨_, rfl⟩
  have s1 : w1.heap.size = W + 1 := by rw [hw1, hW]; simp
  have s2 : w2.heap.size = W + 2 := by rw [hw2]; simp [s1]
  have s3 : w3.heap.size = W + 3 := by rw [hw3]; simp [s2]
  have t1 : Turn (fun _ => False) w w1 := by rw [hw1]; exact (Turn.refl _ _).alloc _
  have t2 : Turn (fun _ => False) w1 w2 := by rw [hw2]; exact (Turn.refl _ _).alloc _
  have t3 : Turn (fun _ => False) w2 w3 := by rw [hw3]; exact (Turn.refl _ _).alloc _
  have t13 : Turn (fun _ => False) w w3 := (t1.trans t2 (fun _ _ h => h)).trans t3 (fun _ _ h => h)
  have g1 : w3.heap[W]? = some (.cells ZTx4 28 (0, 0)) := t3.heap (t2.heap (by rw [hw1, hW]; exact heap_alloc_new _ _) (fun h => h)) (fun h => h)
  have g2 : w3.heap[W + 1]? = some (.cells #[.slice A b.length c, .int .i64 0] 54 (0, 0)) := t3.heap (by rw [hw2, ← s1]; exact heap_alloc_new _ _) (fun h => h)
  have g3 : w3.heap[W + 2]? = some (.cells ZTx4 28 (0, 0)) := by rw [hw3, ← s2]; exact heap_alloc_new _ _
  have Y3 : YS w3 (fun i => W ≤ i) (W + 1) 0 b := ⟨A, c, b.length, g2, fun _ => ⟨rfl, ⟨(SlN.of hs (N := fun i => W ≤ i) (fun i hi => by omega)).turn t13 (fun _ h => h.elim) (fun _ _ h => h), hA, hc⟩, hlen⟩⟩
  have R3 : RSt W (W + 3) w w3 0 b (.slice none 0 0) 0 [] (.slice none 0 0) 0 [] 0 0 := ⟨Y3, g1, g3, ⟨[], World.ownsRow_nil _ _ _ _, rfl, fun _ => ⟨rfl, fun i p h => by simp at h⟩⟩, ⟨[], World.ownsRow_nil _ _ _ _, rfl, fun _ => ⟨rfl, fun i p h => by simp at h⟩⟩, t13⟩
  have HW := Lib.hid hW
  have HN := Lib.hid (fun (w' : World) (h : W + 3 ≤ w'.heap.size) (i : Nat) (hi : w'.heap.size ≤ i) => show W ≤ i by omega)
  have hWy : W ≤ W + 1 := by omega
  have T0 := enum_any (fun i => W ≤ i) (W + 1) 0 16 b w3 Y3 hWy (HN.out w3 (by omega)) (by decide)
  change Calls _ _ _ _ (fun r w' => r = .returned (.int .u64 ((g1N b : Nat) : Int)) ∧ YS w' _ _ (g1E b) (numR b) ∧ _) at T0
  obtain ⟨n, hn⟩ : ∃ n, n = g1N b := ⟨_, rfl⟩
  rw [← hn] at T0
  have hn16 : n ≤ 16 := by rw [hn]; exact nN_le.1
  have Hn := Lib.hid hn
  have T := Lib.hid T0
  have HR3 := Lib.hid R3
  have HS3 := Lib.hid s3
  have HW3 := Lib.hid (And.intro hw1 (And.intro hw2 hw3))
  have HS12 := Lib.hid (And.intro s1 s2)
  clear hW hn T0 hs hA hc hlen s1 s2 s3 t1 t2 t3 t13 g1 g2 g3 Y3 R3 hw1 hw2 hw3
  go_enter Try.func6, Try.ntmps6
  go_upto_region 3 with fail
  change Code.wp _ _ _ _ (((w.alloc (.cells ZTx4 28)).alloc (.cells #[.slice A b.length c, .int .i64 0] 54)).alloc (.cells ZTx4 28))
  rw [← HW3.out.1, ← HW3.out.2.1, ← HW3.out.2.2, ← HW.out, show W + 1 + 1 = W + 2 from rfl]
  clear HW3 HS12
  go_wp2_with fail
  refine T.out.mono ?_
  rintro r w4 ⟨rfl, hy4, t4⟩
  have HR4 := Lib.hid (HR3.out.num hy4 t4 HW.out (Nat.le_refl _) (fun _ => rfl))
  have hs4 : W + 3 ≤ w4.heap.size := by have := t4.size; have := HS3.out; omega
  have HS4 := Lib.hid hs4
  clear hy4 t4 hs4 T HR3 HS3
  go_wp2_with fail
  refine eread_ins W n (g1E b) (numR b) w w4 _ _ _ _ _ _ _ _ _ _ _ _ _ _ _ _ _ _ _ _ _ _ _ _ _ _ _ _ _ _ _ _ _ _ _ _ _ _ _ _ _ _ _ _ _ _ _ _ _ _ _ _ _ _ _ _ _ _ _ _ _ _ _ _ _ _ _ _ _ _ _ _ _ _ _ _ _ _ _ _ _ _ _ _ _ _ _ _ _ _ _ _ _ _ _ _ _ _ _ _ _ _ _ _ _ _ _ _ _ _ _ _ _ _ _ _ _ _ hn16 HW.out HR4.out HS4.out ?_
  intro u7 u8 u16 u17 u18 u19 u20 u21 u22 u23 u24 u25 u26 u27 u28 u29 u30 u31 u32 u33 u34 u35 u36 u37 u38 u39 u40 u41 u42 u43 u44 u45 u46 u47 u48 u49 k Av cv w5 hk hR5 hs5
  have R5 : RSt W (W + 3) w w5 (g2E b) (g2R b) (.slice Av k cv) k (g2V b) (.slice none 0 0) 0 [] 0 0 := by rw [Hn.out] at hR5; exact hR5
  have T60 := enum_any (fun i => W ≤ i) (W + 1) (g2E b) 16 (g2R b) w5 R5.y hWy (HN.out w5 hs5) (by decide)
  change Calls _ _ _ _ (fun r w' => r = .returned (.int .u64 ((g3N b : Nat) : Int)) ∧ YS w' _ _ (g3E b) (numR (g2R b)) ∧ _) at T60
  obtain ⟨m, hm⟩ : ∃ m, m = g3N b := ⟨_, rfl⟩
  rw [← hm] at T60
  have hm16 : m ≤ 16 := by rw [hm]; exact nN_le.1
  have Hm := Lib.hid hm
  have HR5 := Lib.hid R5
  have HS5 := Lib.hid hs5
  have HK := Lib.hid hk
  have T6 := Lib.hid T60
  clear T60 hm R5 hR5 hs5 hk HR4 HS4
  go_wp2_with fail
  refine T6.out.mono ?_
  rintro r w6 ⟨rfl, hy6, t6⟩
  have HR6 := Lib.hid (HR5.out.num hy6 t6 HW.out (Nat.le_refl _) (fun h => (nE_zero h).1))
  have HS6 := Lib.hid (show W + 3 ≤ w6.heap.size by have := t6.size; have := HS5.out; omega)
  clear hy6 t6 T6 HR5 HS5
  go_wp2_with fail
  refine eread_outs W m (g3E b) k (.slice Av k cv) (g2V b) (numR (g2R b)) w w6 _ _ _ _ _ _ _ _ _ _ _ _ _ _ _ _ _ _ _ _ _ _ _ _ _ _ _ _ _ _ _ _ _ _ _ _ _ _ _ _ _ _ _ _ _ _ _ _ _ _ _ _ _ _ _ _ _ _ _ _ _ _ _ _ _ _ _ _ _ _ _ _ _ _ _ _ _ _ _ _ _ _ _ _ _ _ _ _ _ _ _ _ _ _ _ _ _ _ _ _ _ _ _ _ _ _ _ _ _ _ _ _ _ _ _ _ _ _ hm16 HW.out HR6.out HS6.out ?_
  intro u9 u10 u52 u53 u54 u55 u56 u57 u58 u59 u60 u61 u62 u63 u64 u65 u66 u67 u68 u69 u70 u71 u72 u73 u74 u75 u76 k2 Ao co w7 hk2 hR7 hs7
  obtain ⟨Bu, hBu⟩ : ∃ Bu, Bu = w6.heap.size := ⟨_, rfl⟩
  have R7 : RSt W Bu w w7 (g4E b) (g4R b) (.slice Av k cv) k (g2V b) (.slice Ao k2 co) k2 (g4V b) 0 0 := by rw [Hm.out, ← hBu] at hR7; exact hR7
  have HB := Lib.hid (show W + 3 ≤ Bu by rw [hBu]; exact HS6.out)
  have T80 := enum_any (fun i => W ≤ i) (W + 1) (g4E b) 18446744073709551615 (g4R b) w7 R7.y hWy (HN.out w7 hs7) (by decide)
  change Calls _ _ _ _ (fun r w' => r = .returned (.int .u64 ((g5N b : Nat) : Int)) ∧ YS w' _ _ (g5E b) (numR (g4R b)) ∧ _) at T80
  obtain ⟨f, hf⟩ : ∃ f, f = g5N b := ⟨_, rfl⟩
  rw [← hf] at T80
  have hf64 : f < 18446744073709551616 := by rw [hf]; exact nN_le.2
  have Hf := Lib.hid (And.intro hf hf64)
  have HR7 := Lib.hid R7
  have HS7 := Lib.hid hs7
  have HK2 := Lib.hid hk2
  have T8 := Lib.hid T80
  clear T80 hf R7 hR7 hs7 hk2 HR6 HS6 hBu
  go_wp2_with fail
  refine T8.out.mono ?_
  rintro r w8 ⟨rfl, hy8, t8⟩
  have R8 := HR7.out.num hy8 t8 HW.out HB.out (fun h => (nE_zero h).1)
  have HS8 := Lib.hid (show W + 3 ≤ w8.heap.size by have := t8.size; have := HS7.out; omega)
  obtain ⟨⟨-, -, c2, c3⟩, -, -, z2, z3⟩ := row4 R8.t
  have HR8 := Lib.hid R8
  clear R8 hy8 t8 T8 HR7 HS7
  go_upto_region 20 with fail
  obtain ⟨w9, hw9⟩ : ∃ w9, w9 = w8.setCell ⟨W + 2, 2, none⟩ (.int .u64 (f : Int)) := ⟨_, rfl⟩
  have R9 : RSt W Bu w w9 (g5E b) (numR (g4R b)) (.slice Av k cv) k (g2V b) (.slice Ao k2 co) k2 (g4V b) f 0 := by rw [hw9]; exact HR8.out.setT HW.out HB.out 2 _ f 0 rfl
  have s9 : W + 3 ≤ w9.heap.size := by have := (set_turn w8 (W + 2) 2 (.int .u64 (f : Int))).size; rw [← hw9] at this; have := HS8.out; omega
  rw [← hw9]
  have T100 := enum_any (fun i => W ≤ i) (W + 1) (g5E b) 1099511627776 (numR (g4R b)) w9 R9.y hWy (HN.out w9 s9) (by decide)
  change Calls _ _ _ _ (fun r w' => r = .returned (.int .u64 ((g6N b : Nat) : Int)) ∧ YS w' _ _ (g6E b) (g6R b) ∧ _) at T100
  obtain ⟨x, hx⟩ : ∃ x, x = g6N b := ⟨_, rfl⟩
  rw [← hx] at T100
  have hx40 : x ≤ 1099511627776 := by rw [hx]; exact nN_le.1
  have Hx := Lib.hid hx
  have HR9 := Lib.hid R9
  have HS9 := Lib.hid s9
  have T10 := Lib.hid T100
  clear T100 hx R9 s9 hw9 HR8 HS8 c2 c3 z2 z3
  go_wp2_with fail
  refine T10.out.mono ?_
  rintro r w10 ⟨rfl, hy10, t10⟩
  have R10 := HR9.out.num hy10 t10 HW.out HB.out (fun h => (nE_zero h).1)
  have HS10 := Lib.hid (show W + 3 ≤ w10.heap.size by have := t10.size; have := HS9.out; omega)
  obtain ⟨⟨-, -, -, c3⟩, -, -, -, z3⟩ := row4 R10.t
  have HR10 := Lib.hid R10
  clear R10 hy10 t10 T10 HR9 HS9
  go_upto_region 21 with fail
  obtain ⟨w11, hw11⟩ : ∃ w11, w11 = w10.setCell ⟨W + 2, 3, none⟩ (.int .i64 (x : Int)) := ⟨_, rfl⟩
  have R11 : RSt W Bu w w11 (g6E b) (g6R b) (.slice Av k cv) k (g2V b) (.slice Ao k2 co) k2 (g4V b) f (x : Int) := by rw [hw11]; exact HR10.out.setT HW.out HB.out 3 _ f x rfl
  have s11 : W + 3 ≤ w11.heap.size := by have := (set_turn w10 (W + 2) 3 (.int .i64 (x : Int))).size; rw [← hw11] at this; have := HS10.out; omega
  rw [← hw11]
  clear hw11 HR10 HS10 c3 z3
  obtain ⟨hb1, hb2⟩ := g_bod b
  obtain ⟨E, hE⟩ : ∃ E, E = g6E b := ⟨_, rfl⟩
  obtain ⟨l, hl⟩ : ∃ l, l = g6R b := ⟨_, rfl⟩
  rw [← hE] at R11 hb1 hb2
  rw [← hl] at R11 hb2
  clear hE hl
  obtain ⟨Ay, cy, ny, hyr, hyl⟩ := R11.y
  obtain ⟨⟨c0, c1⟩, z0, z1⟩ := ys_row hyr
  have HS11 := Lib.hid s11
  have HYR := Lib.hid hyr
  clear hyr s11
  by_cases hE0 : E = 0
  · subst hE0
    obtain ⟨hb3, hb4⟩ := hb2 rfl
    obtain ⟨hny, -, -⟩ := hyl rfl
    have c1' : w11.cell? ⟨W + 1, 1, none⟩ = some (.int .i64 0) := c1
    have hgt : (⟨g2V b, g4V b, f, (x : Int)⟩ : Ptx) = bodV b := by rw [Hf.out.1, Hx.out]; exact hb4
    have TXW := Lib.hid (fun (w' : World) (t : Turn (fun i => W ≤ i ∧ i < W + 3) w11 w') => R11.txAt HB.out HK.out HK2.out hf64 (by omega) (by omega : (x : Int) ≤ 1099511627776) t)
    rw [hgt] at TXW
    have hk1 := R11.insN.1
    have hk3 := (R11.ousN HB.out).1
    obtain ⟨tv, htv⟩ : ∃ tv, tv = bodV b := ⟨_, rfl⟩
    rw [← htv] at TXW hgt
    have ev : txV Av cv Ao co tv = .agg #[.slice Av k cv, .slice Ao k2 co, .int .u64 (f : Int), .int .i64 (x : Int)] := by rw [← hgt, hk1, hk3]; rfl
    have Hev := Lib.hid ev
    have hbE : bodE b = 0 := hb1.symm
    have hlr : l = bodR b := hb3
    have htx := R11.t
    have hr0 := R11.r
    have HTX := Lib.hid htx
    have HR0 := Lib.hid hr0
    have HTN := Lib.hid R11.n
    obtain ⟨⟨d0, d1, d2, d3⟩, y0, y1, y2, y3⟩ := row4 htx
    have HTV := Lib.hid htv
    clear c1 hyl hgt hk1 hk3 htv ev R11 htx hr0 hb1 hb2 hb3 hb4
    by_cases hl0 : l = []
    · have HRE := Lib.hid (show readE b = chk tv by unfold readE; rw [if_neg (by omega), if_neg (by rw [← hlr, hl0]; simp), ← HTV.out])
      have HRV := Lib.hid (show readV b = if chk tv ≠ 0 then exZ else tv by unfold readV; rw [HRE.out, ← HTV.out])
      have tn : decide (0 < (ny : Int)) = false := by rw [decide_eq_false_iff_not, hny, hl0]; simp
      have tn2 : decide (0 < ny) = false := by rw [decide_eq_false_iff_not, hny, hl0]; simp
      have tn3 : ny = 0 := by rw [hny, hl0]; rfl
      have CK := Lib.hid (rcheck_any _ _ _ _ _ tv w11 (TXW.out w11 (Turn.refl _ _)))
      rw [Hev.out] at CK
      obtain ⟨z, hz⟩ : ∃ z, z = chk tv := ⟨_, rfl⟩
      rw [← hz] at CK HRE HRV
      clear hny hl0 hlr hz hbE tn3
      go_wp2_with fail
      refine CK.out.mono ?_
      rintro r w12 ⟨rfl, t12⟩
      have hy12 := t12.heap HYR.out (fun h => h)
      obtain ⟨⟨-, b1⟩, -, q1⟩ := ys_row hy12
      have HT12 := Lib.hid t12
      have HY12 := Lib.hid hy12
      clear t12 hy12 c0 c1' z0 z1 d0 d1 d2 d3 y0 y1 y2 y3 CK tn tn2
      go_upto_region 25 with fail
      obtain ⟨w13, hw13⟩ : ∃ w13, w13 = w12.setCell ⟨W + 1, 1, none⟩ (.int .i64 (z : Int)) := ⟨_, rfl⟩
      have t13 := set_turn w12 (W + 1) 1 (.int .i64 (z : Int))
      have hy13 : w13.heap[W + 1]? = some (.cells #[.slice Ay ny cy, .int .i64 (z : Int)] 54 (0, 0)) := by rw [hw13, heap_setCell_same w12 (W + 1) 1 _ _ _ HY12.out]; rfl
      rw [← hw13] at t13 ⊢
      have HT13 := Lib.hid ((HT12.out.mono (fun _ _ h => h.elim)).trans t13 (fun _ _ h => h))
      have HR13 := Lib.hid (HT13.out.heap HR0.out (fun e => by have e' : W = W + 1 := e; omega))
      have HX13 := Lib.hid (HT13.out.heap HTX.out (fun e => by have e' : W + 2 = W + 1 := e; omega))
      have HTN13 := Lib.hid (show Turn (fun _ => False) w w13 from HTN.out.trans HT13.out (fun i hi h => by have h' : i = W + 1 := h; have := HW.out; omega))
      clear hw13 t13 b1 q1 HY12 HYR HT12 HTX HR0 HTN
      obtain ⟨⟨d0, d1, d2, d3⟩, y0, y1, y2, y3⟩ := row4 HR13.out
      obtain ⟨⟨-, c1⟩, -, -⟩ := ys_row hy13
      by_cases hz0 : z = 0
      · subst hz0
        have HRV0 := Lib.hid (show readV b = tv by rw [HRV.out, if_neg (by simp)])
        have c1' : w13.cell? ⟨W + 1, 1, none⟩ = some (.int .i64 0) := c1
        obtain ⟨⟨e0, e1, e2, e3⟩, -⟩ := row4 HX13.out
        clear c1 hy13 HRV
        go_wp2_with fail
        have h5 := set4 HR13.out (.slice Av k cv) (.slice Ao k2 co) (.int .u64 (f : Int)) (.int .i64 (x : Int))
        refine bodyPost_ret (v := .tuple #[.agg #[.slice Av k cv, .slice Ao k2 co, .int .u64 (f : Int), .int .i64 (x : Int)], .int .i64 0]) ?_ rfl ⟨Av, cv, Ao, co, by rw [HRV0.out, HRE.out, Hev.out]; rfl, by rw [HRV0.out]; exact TXW.out _ ((HT13.out.mono (fun i _ h => by have h' : i = W + 1 := h; show W ≤ i ∧ i < W + 3; omega)).trans h5.2 (fun i _ h => by have h' : i = W := h; show W ≤ i ∧ i < W + 3; omega)), HTN13.out.trans h5.2 (fun i hi h => by have h' : i = W := h; have := HW.out; omega)⟩
        exact results_tx Try.results6 _ _ W _ _ rfl rfl h5.1 rfl
      · have HRV0 := Lib.hid (show readV b = exZ by rw [HRV.out, if_pos hz0])
        have u2 : ((z : Int) != 0) = true := by simp; omega
        clear hy13 HRV hz0
        go_upto_region 26 with fail
        go_region
        all_goals go_wp2_with fail
        have h5 := set4 HR13.out (.slice none 0 0) (.slice none 0 0) (.int .u64 0) (.int .i64 0)
        refine bodyPost_ret (v := .tuple #[.agg #[.slice none 0 0, .slice none 0 0, .int .u64 0, .int .i64 0], .int .i64 ((z : Int))]) ?_ rfl ⟨none, 0, none, 0, by rw [HRV0.out, HRE.out]; rfl, by rw [HRV0.out]; exact exZ_at _ _, (HTN13.out.trans h5.2 (fun i hi h => by have h' : i = W := h; have := HW.out; omega)).trans (Turn.refl _ _).drew (fun _ _ h => h)⟩
        exact results_tx Try.results6 _ _ W _ _ rfl rfl h5.1 rfl
    · have HRE := Lib.hid (show readE b = 3 by unfold readE; rw [if_neg (by omega), if_pos (by rw [← hlr]; exact hl0)])
      have HRV := Lib.hid (show readV b = exZ by unfold readV; rw [HRE.out]; rfl)
      have hlp : 0 < l.length := List.length_pos_iff.2 hl0
      have tn : decide (0 < (ny : Int)) = true := by rw [decide_eq_true_eq, hny]; omega
      have tn2 : decide (0 < ny) = true := by rw [decide_eq_true_eq, hny]; omega
      clear hny hl0 hlr hbE hlp
      go_upto_region 23 with fail
      obtain ⟨w13, hw13⟩ : ∃ w13, w13 = w11.setCell ⟨W + 1, 1, none⟩ (.int .i64 3) := ⟨_, rfl⟩
      have t13 := set_turn w11 (W + 1) 1 (.int .i64 3)
      have hy13 : w13.heap[W + 1]? = some (.cells #[.slice Ay ny cy, .int .i64 3] 54 (0, 0)) := by rw [hw13, heap_setCell_same w11 (W + 1) 1 _ _ _ HYR.out]; rfl
      rw [← hw13] at t13 ⊢
      have HR13 := Lib.hid (t13.heap HR0.out (fun e => by have e' : W = W + 1 := e; omega))
      have HTN13 := Lib.hid (show Turn (fun _ => False) w w13 from HTN.out.trans t13 (fun i hi h => by have h' : i = W + 1 := h; have := HW.out; omega))
      clear hw13 t13 HYR HTX HR0 HTN c0 c1' z0 z1 d0 d1 d2 d3 y0 y1 y2 y3 tn tn2
      obtain ⟨⟨d0, d1, d2, d3⟩, y0, y1, y2, y3⟩ := row4 HR13.out
      obtain ⟨⟨-, c1⟩, -, -⟩ := ys_row hy13
      clear hy13
      go_upto_region 26 with fail
      go_region
      all_goals go_wp2_with fail
      have h5 := set4 HR13.out (.slice none 0 0) (.slice none 0 0) (.int .u64 0) (.int .i64 0)
      refine bodyPost_ret (v := .tuple #[.agg #[.slice none 0 0, .slice none 0 0, .int .u64 0, .int .i64 0], .int .i64 (3)]) ?_ rfl ⟨none, 0, none, 0, by rw [HRV.out, HRE.out]; rfl, by rw [HRV.out]; exact exZ_at _ _, (HTN13.out.trans h5.2 (fun i hi h => by have h' : i = W := h; have := HW.out; omega)).trans (Turn.refl _ _).drew (fun _ _ h => h)⟩
      exact results_tx Try.results6 _ _ W _ _ rfl rfl h5.1 rfl
  · have HRE := Lib.hid (show readE b = E by unfold readE; rw [if_pos (by rw [← hb1]; exact hE0), hb1])
    have HRV := Lib.hid (show readV b = exZ by unfold readV; rw [if_pos (by rw [HRE.out]; exact hE0)])
    have hr0 := R11.r
    obtain ⟨⟨d0, d1, d2, d3⟩, y0, y1, y2, y3⟩ := row4 hr0
    have HR0 := Lib.hid hr0
    have HTN := Lib.hid R11.n
    have t1 : ((E : Int) == 0) = false := by rw [beq_eq_false_iff_ne]; omega
    have t2 : ((E : Int) != 0) = true := by simp; omega
    clear hb1 hb2 hyl R11 hr0 hE0
    go_upto_region 26 with fail
    go_region
    all_goals go_wp2_with fail
    have h5 := set4 HR0.out (.slice none 0 0) (.slice none 0 0) (.int .u64 0) (.int .i64 0)
    refine bodyPost_ret (v := .tuple #[.agg #[.slice none 0 0, .slice none 0 0, .int .u64 0, .int .i64 0], .int .i64 ((E : Int))]) ?_ rfl ⟨none, 0, none, 0, by rw [HRV.out, HRE.out]; rfl, by rw [HRV.out]; exact exZ_at _ _, (HTN.out.trans h5.2 (fun i hi h => by have h' : i = W := h; have := HW.out; omega)).trans (Turn.refl _ _).drew (fun _ _ h => h)⟩
    exact results_tx Try.results6 _ _ W _ _ rfl rfl h5.1 rfl
end Go.Proofs.Yteaoaabjdgdcmaa
