/- 'FieldReads': its walk. -/
import Derived.Test.YtciohmlobknhlaaFrG
import Derived.Test.YtciohmlobknhlaaFrL
set_option linter.unusedVariables false
namespace Go.Proofs.Ytciohmlobknhlaa
open Go.RowKit
attribute [local go_sem ↓] loadAt_id
attribute [local go_sem] rowOf_drew rowOf_drewN run_idLoad
set_option maxRecDepth 100000 in
set_option maxHeartbeats 4000000 in
theorem fieldReads_any (A : Option Addr) (c : Nat) (bs : List B8) (A' : Option Addr) (c' : Nat) (fs : List Fd) (w : World) (hs : Sl w w.heap.size A (bs.map bv)) (hA : A = none → c = 0) (hc : bs.length ≤ c) (hm : bs.length ≤ maxLen) (hf : Fds w w.heap.size A' fs) (hm' : fs.length ≤ maxLen) :
    Calls Try.prog 3 #[.slice A bs.length c, .slice A' fs.length c'] w fun e w' => e = .returned (.bool true) ∧ Turn (fun _ => False) w w' := by
  have hmf : ∀ (fn : Fn) (first cap : Array Value) (w : World), (Instr.makeFunc fn first cap).run Try.prog w = .ok (.func fn first cap) w := fun _ _ _ _ => rfl
  obtain ⟨i0, hi, hz0, hz1, hz2⟩ := info_parts info_u8
  obtain ⟨j0, hj, hy0, hy1, hy2⟩ := info_parts info_got
  have AW := Lib.hid awake_any
  unfold maxLen at hm hm'
  obtain ⟨n, hn⟩ : ∃ n, n = fs.length := ⟨_, rfl⟩
  obtain ⟨bl, hbl⟩ : ∃ bl, bl = bs.length := ⟨_, rfl⟩
  have HN := Lib.hid hn
  have HBL := Lib.hid hbl
  rw [← hn] at hm' ⊢
  rw [← hbl] at hm hc ⊢
  clear hn hbl
  by_cases h200 : 200 < bl
  · have t0 : decide (200 < (bl : Int)) = true := by rw [decide_eq_true_eq]; omega
    go_enter Try.func3, Try.ntmps3
    go_wp2_with (go_at_call 4; refine (AW.out _).mono ?_; rintro r w9 ⟨rfl, t9⟩)
    go_ret
    exact ⟨rfl, t9⟩
  have t0 : decide (200 < (bl : Int)) = false := by rw [decide_eq_false_iff_not]; omega
  by_cases h12 : 12 < n
  · have t1 : decide (12 < (n : Int)) = true := by rw [decide_eq_true_eq]; omega
    go_enter Try.func3, Try.ntmps3
    go_wp2_with (go_at_call 4; refine (AW.out _).mono ?_; rintro r w9 ⟨rfl, t9⟩)
    go_ret
    exact ⟨rfl, t9⟩
  have t1 : decide (12 < (n : Int)) = false := by rw [decide_eq_false_iff_not]; omega
  have HS := Lib.hid hs
  have HA := Lib.hid hA
  have HF := Lib.hid hf
  have HRJ := Lib.hid (restJ_le fs bs)
  clear hs hA hf
  go_enter Try.func3, Try.ntmps3
  go_upto_region 3 with fail
  clear t0 t1
  go_step
  refine wpList_emptyR (o := ⟨some 22, _, _, _, _, _⟩) rfl 5 (fun w => by kernel_rfl) ?_
  intro v0 w0 g1 g2
  have hown0 := Lib.hid g1
  have T0 := Lib.hid (show Turn (fun _ => False) w w0 by rw [g2]; exact (Turn.refl _ w).alloc _)
  have hs0 : w.heap.size ≤ w0.heap.size := T0.out.size
  clear g1 g2
  iterate 3 go_step
  refine wpList_append_any (o := ⟨some 24, _, _, _, _, _⟩) rfl _ _ 22 rfl w.heap.size 5 i0 (.int .u8 0) 1 Try.underlying22 hi hz0 hz1 hz2 rfl v0 0 [] rfl hown0.out A bl c (bs.map bv) rfl HA.out (by rw [List.length_map, HBL.out]) (fun j u hu => ?_) (bv_one bs) ?_ ?_ ?_ ?_
  · obtain ⟨ad, e, _, hcl⟩ := HS.out j u hu
    exact ⟨ad, e, T0.out.cell hcl (fun h => h)⟩
  · unfold maxLen; omega
  · omega
  · omega
  intro v1 wz g1 g2
  rw [Nat.zero_add, List.nil_append] at g1
  have TZ := Lib.hid (show Turn (fun _ => False) w wz from T0.out.grown g2 (fun i hi e => by have := (hown0.out.lt i e.symm).1; omega))
  obtain ⟨Az, cz, rfl, hsz, hlz, hcz, hAz⟩ := own_sl g1
  have HZ := Lib.hid (show SlN wz (fun i => wz.heap.size ≤ i) Az ((restJ fs bs 0).map bv) from SlN.of hsz (fun i hi h => by omega))
  have HAz := Lib.hid hAz
  have HLZ := Lib.hid (show bl = (restJ fs bs 0).length from HBL.out)
  clear g1 g2 hown0 T0 hsz hlz hAz hs0
  go_wp2_with fail
  go_loopw [5, 6, 7, 8] (fun vl vw ve i wr => ∃ gs : List Gt, LInv fs bs wz.heap.size vw gs wr ∧ Turn (fun _ => False) wz wr ∧ gs.length ≤ n ∧
    ((i = .int .i64 gs.length ∧ ve = .int .i64 0 ∧ (∀ j f, j < gs.length → fs[j]? = some f → f.k % 3 = 1 → f.n ≤ 1099511627776) ∧ ∃ Al nl cl, vl = .slice Al nl cl ∧ nl = (restJ fs bs gs.length).length ∧ (Al = none → cl = 0) ∧ nl ≤ cl ∧ SlN wr (fun i => wz.heap.size ≤ i) Al ((restJ fs bs gs.length).map bv)) ∨
     (∃ x : Nat, x ≠ 0 ∧ x ≤ 5 ∧ gs.length < n ∧ i = .int .i64 ((gs.length + 1 : Nat) : Int) ∧ ve = .int .i64 (x : Int) ∧ (∃ f, fs[gs.length]? = some f ∧ sE f.kd (restJ fs bs gs.length) = x) ∧ (∀ j f, j < gs.length + 1 → fs[j]? = some f → f.k % 3 = 1 → f.n ≤ 1099511627776) ∧ ∃ Al nl cl, vl = .slice Al nl cl))) (fun _ _ _ i _ => n - (intOf i).toNat)
  case atStart =>
    exact ⟨[], ⟨World.ownsRow_nil _ _ _ _, fun j f g _ h => by simp at h, fun g h => by simp at h⟩, Turn.refl _ _, Nat.zero_le _, .inl ⟨rfl, rfl, fun j f h => absurd h (Nat.not_lt_zero _), Az, bl, cz, rfl, HLZ.out, HAz.out, hcz, HZ.out⟩⟩
  case round =>
    clear HZ HAz HLZ
    obtain ⟨gs, hinv, ht, hgn, hgood | hbad⟩ := hrel
    · obtain ⟨rfl, rfl, h40, Al, nl, cl, rfl, hnl, hAl, hcl, hsl⟩ := hgood
      obtain ⟨k, hk⟩ : ∃ k, k = gs.length := ⟨_, rfl⟩
      have HINV := Lib.hid hinv
      have HT := Lib.hid ht
      have HK := Lib.hid hk
      have H40 := Lib.hid h40
      have HNL := Lib.hid hnl
      have HAl := Lib.hid hAl
      have HSL := Lib.hid hsl
      rw [← hk] at hgn ⊢
      have hrl : nl ≤ 200 := by rw [hnl]; have := HRJ.out gs.length; have := HBL.out; omega
      clear hinv ht hk h40 hnl hAl hsl
      by_cases hlt : k < n
      · have t2 : decide ((k : Int) < (n : Int)) = true := by rw [decide_eq_true_eq]; omega
        obtain ⟨f, hfe⟩ : ∃ f, fs[k]? = some f := ⟨_, List.getElem?_eq_getElem (by rw [← HN.out]; exact hlt)⟩
        obtain ⟨hok, b, o', rfl, hbB, hr⟩ := HF.out k f hfe
        have hr1 := HT.out.range (TZ.out.range hr (fun h => h)) (fun h => h)
        have K1 := Lib.hid (fun w => kind_any f w hok.k0 hok.k1 hok.d)
        have HL := Lib.hid (show (Try.prog.info? 30).map (·.size) = some f.cells.length by rw [f.len hok.d]; kernel_rfl)
        have HR := Lib.hid hr1
        have hfn := hok.n
        have HFD := Lib.hid hok.d
        obtain ⟨D, hD⟩ : ∃ D, D = f.kd.cells.toArray := ⟨_, rfl⟩
        have sD : D.size = 35 := by rw [hD, List.size_toArray, f.kd.len hok.d]
        have H1 := Lib.hid (show (Try.prog.info? 30).map (·.size) = some D.size by rw [sD]; kernel_rfl)
        have H2 := Lib.hid (show Z35.size = D.size by rw [sD]; rfl)
        have H3 := Lib.hid (show D.all (·.oneCell') = true by rw [hD]; exact f.kd.one)
        have hzd := zero_field
        change ∀ w, _ = Result.ok (Value.agg Z35) w at hzd
        have hzg := zero_got
        change ∀ w, _ = Result.ok (Value.agg Z37) w at hzg
        rw [← hD] at K1
        have HD := Lib.hid hD
        have HFE := Lib.hid hfe
        clear hr hr1 hok hD sD hfe
        go_upto_region 10 with (first
          | (refine wpList_load_mid (op := ⟨some 38, _, _, _, _, _⟩) rfl _ _ rfl b (o' + k * 35) rfl f.cells _ HR.out Try.underlying30 rfl HL.out ?_)
          | (go_at_call 5; refine (K1.out _).mono ?_; rintro r w2 ⟨rfl, ht2⟩; have HT2 := Lib.hid ht2; clear ht2)
          | (refine wpList_store_row rfl _ _ _ rfl w2.heap.size D rfl rfl 30 _ (heap_alloc_new w2 _) H1.out H2.out H3.out ?_; rw [World.setRow_alloc_new]))
        obtain ⟨w3, hw3⟩ : ∃ w3, w3 = w2.alloc (.cells D 30) := ⟨_, rfl⟩
        have g3 : w3.heap[w2.heap.size]? = some (.cells D 30 (0, 0)) := by rw [hw3]; exact heap_alloc_new w2 _
        have t3 : Turn (fun _ => False) wr w3 := by rw [hw3]; exact HT2.out.alloc _
        obtain ⟨g, hg⟩ : ∃ g, g = w2.heap.size := ⟨_, rfl⟩
        rw [← hw3, ← hg]
        rw [← hg] at g3
        have d0 : w3.cell? ⟨g, 0, none⟩ = some (.int .i64 (f.k % 3)) := by rw [cell_of_row _ _ _ _ _ _ g3, HD.out]; simp [Fd.cells, Fd.kd]
        have d1 : w3.cell? ⟨g, 1, none⟩ = some (.int .u64 (f.n : Int)) := by rw [cell_of_row _ _ _ _ _ _ g3, HD.out]; simp [Fd.cells, Fd.kd]
        have G3 := Lib.hid g3
        have HT3 := Lib.hid (HT.out.trans t3 (fun _ _ h => h.elim))
        have HINV3 := Lib.hid (HINV.out.turn t3)
        have HSL3 := Lib.hid (HSL.out.turn t3 (fun _ h => h.elim) (N' := fun i => wz.heap.size ≤ i) (fun _ _ h => h))
        have hsw : wz.heap.size ≤ w3.heap.size := HT3.out.size
        clear hw3 hg g3 t3 HT2 HT HINV HSL HR K1 HL H2 H3
        have hkd : f.kd.k = 0 ∨ f.kd.k = 1 ∨ f.kd.k = 2 := by show f.k % 3 = 0 ∨ f.k % 3 = 1 ∨ f.k % 3 = 2; omega
        have TK := Lib.hid (take_anyN (fun i => wz.heap.size ≤ i) Al cl nl (restJ fs bs k) (by rw [HNL.out, HK.out]) f.kd w3 HFD.out hkd hfn (by rw [HK.out]; exact HSL3.out) HAl.out hcl (by omega))
        rw [← HD.out] at TK
        clear hkd
        by_cases h1 : f.k % 3 = 1
        · rw [h1] at d0
          by_cases hbig : 1099511627776 < f.n
          · have t4 : decide ((1099511627776 : Int) < (f.n : Int)) = true := by rw [decide_eq_true_eq]; omega
            go_wp2_with (go_at_call 4; refine (AW.out _).mono ?_; rintro r w9 ⟨rfl, t9⟩)
            go_ret
            exact ⟨rfl, ((TZ.out.trans HT3.out (fun _ _ h => h)).trans t9 (fun _ _ h => h))⟩
          · have t4 : decide ((1099511627776 : Int) < (f.n : Int)) = false := by rw [decide_eq_false_iff_not]; omega
            have H41 := Lib.hid (show f.k % 3 = 1 → f.n ≤ 1099511627776 from fun _ => by omega)
            go_wp2_with (first
              | (refine wpList_load_row rfl _ _ rfl g rfl _ D (0, 0) _ G3.out Try.underlying30 rfl H1.out ?_)
              | (go_at_call 6; refine stop ?_))
            unfold Stop
            refine TK.out.mono ?_
            rintro r w4 ⟨gt, rfl, gd, ge, gok, t4x⟩
            obtain ⟨GA, hGA⟩ : ∃ GA, GA = gt.cells.toArray := ⟨_, rfl⟩
            have sGA : GA.size = 37 := by rw [hGA, List.size_toArray, gt.len gd]
            have J1 := Lib.hid (show (Try.prog.info? 33).map (·.size) = some GA.size by rw [sGA]; kernel_rfl)
            have J2 := Lib.hid (show Z37.size = GA.size by rw [sGA]; rfl)
            have J3 := Lib.hid (show GA.all (·.oneCell') = true by rw [hGA]; exact gt.one)
            have HGA := Lib.hid hGA
            have GD := Lib.hid gd
            have GE := Lib.hid ge
            have GOKK := Lib.hid gok
            have T4 := Lib.hid t4x
            rw [← hGA]
            clear hGA sGA gd ge gok t4x TK
            go_upto_region 13 with (refine wpList_store_row rfl _ _ _ rfl w4.heap.size GA rfl rfl 33 _ (heap_alloc_new w4 _) J1.out J2.out J3.out ?_; rw [World.setRow_alloc_new])
            obtain ⟨w5, hw5⟩ : ∃ w5, w5 = w4.alloc (.cells GA 33) := ⟨_, rfl⟩
            have G5 := Lib.hid (show w5.heap[w4.heap.size]? = some (.cells GA 33 (0, 0)) by rw [hw5]; exact heap_alloc_new w4 _)
            have t35 : Turn (fun _ => False) w3 w5 := by rw [hw5]; exact T4.out.alloc _
            rw [← hw5]
            have p35 : w5.cell? ⟨w4.heap.size, 35, none⟩ = some (.int .i64 (gt.e : Int)) := by
              rw [cell_of_row _ _ _ _ _ _ G5.out, HGA.out, List.getElem?_toArray]
              unfold Gt.cells
              rw [List.getElem?_append_right (by rw [gt.f.len GD.out]; omega), gt.f.len GD.out]; rfl
            have p36 : w5.cell? ⟨w4.heap.size, 36, none⟩ = some (.slice gt.A gt.l.length gt.c) := by
              rw [cell_of_row _ _ _ _ _ _ G5.out, HGA.out, List.getElem?_toArray]
              unfold Gt.cells
              rw [List.getElem?_append_right (by rw [gt.f.len GD.out]; omega), gt.f.len GD.out]; rfl
            have HT5 := Lib.hid (HT3.out.trans t35 (fun _ _ h => h))
            have HINV5 := Lib.hid (HINV3.out.turn t35)
            have hs5 : wz.heap.size ≤ w5.heap.size := HT5.out.size
            obtain ⟨gb, hgb⟩ : ∃ gb, gb = w4.heap.size := ⟨_, rfl⟩
            rw [← hgb] at p35 p36 G5 ⊢
            obtain ⟨x, hxe⟩ : ∃ x, x = gt.e := ⟨_, rfl⟩
            rw [← hxe] at p35
            have HXE := Lib.hid (show sE f.kd (restJ fs bs k) = x by rw [hxe, GE.out])
            have hx5 : x ≤ 5 := by rw [← HXE.out]; exact sE_le _ _
            clear hw5 HT3 HINV3 HSL3 G3 d0 d1 hgb hxe
            by_cases hx0 : x = 0
            · subst hx0
              obtain ⟨gok, gat⟩ := GOKK.out HXE.out
              have HGO := Lib.hid gok
              have HGT := Lib.hid gat
              have T35 := Lib.hid t35
              clear gok gat t35
              go_wp2_with (refine wpList_load_row (o := ⟨some 59, _, _, _, _, _⟩) rfl _ _ rfl gb rfl _ GA (0, 0) _ G5.out Try.underlying33 rfl J1.out ?_; refine stop ?_)
              unfold Stop
              refine wpList_build_got (o := ⟨some 60, _, _, _, _, _⟩) rfl gt.cells (gt.len GD.out) GA HGA.out #[(0, .tmp 59)] rfl rfl ?_
              obtain ⟨w6, hw6⟩ : ∃ w6, w6 = w5.alloc (.cells GA 33) := ⟨_, rfl⟩
              have t56 : Turn (fun _ => False) w5 w6 := by rw [hw6]; exact (Turn.refl _ w5).alloc _
              have G6 := Lib.hid (show w6.heap[w5.heap.size]? = some (.cells gt.cells.toArray 33 (0, 0)) by rw [hw6, ← HGA.out]; exact heap_alloc_new w5 _)
              have HINV6 := Lib.hid (HINV5.out.turn t56)
              have HT6 := Lib.hid (HT5.out.trans t56 (fun _ _ h => h))
              have T36 := Lib.hid (T35.out.trans t56 (fun _ _ h => h))
              have hs6 : wz.heap.size ≤ w6.heap.size := HT6.out.size
              rw [← hw6]
              clear hw6 t56
              refine wpList_append_own (o := ⟨some 61, _, _, _, _, _⟩) w6 rfl _ _ 25 rfl wz.heap.size 33 j0 (.agg Z37) 37 104 Try.underlying25 hj hy0 hy1 hy2 (by kernel_rfl) (by decide) _ gs.length (gsC gs) rfl HINV6.out.own ⟨w5.heap.size, 0, none⟩ 1 1 gt.cells rfl (by rw [gt.len GD.out]) (fun j u hu => ?_) (fun u hu => gsC_one [gt] u (by simpa [gsC] using hu)) ?_ ?_ hs6 ?_
              · have e : (⟨w5.heap.size, 0, none⟩ : Addr).add j = ⟨w5.heap.size, j, none⟩ := by unfold Addr.add; by_cases hj : j = 0 <;> simp [hj]
                rw [e, cell_of_row _ _ _ _ _ _ G6.out, List.getElem?_toArray]; exact hu
              · unfold maxLen; have := HK.out; omega
              · have := HK.out; omega
              intro v7 w7 q1 q2 _
              have HT7 := Lib.hid (show Turn (fun _ => False) wz w7 from HT6.out.grown q2 (fun i hi e => by have := (HINV6.out.own.lt i e.symm).1; omega))
              have HINV7 := Lib.hid (show LInv fs bs wz.heap.size v7 (gs ++ [gt]) w7 from ⟨by
                  rw [List.length_append, List.length_singleton, show gsC (gs ++ [gt]) = gsC gs ++ gt.cells by simp [gsC]]; exact q1, fun j f' g' hf' hg' => by
                  rcases Nat.lt_or_ge j gs.length with h | h
                  · rw [List.getElem?_append_left h] at hg'; exact HINV6.out.ok j f' g' hf' hg'
                  · rw [List.getElem?_append_right h] at hg'
                    have hj0 : j = gs.length := by have := (List.getElem?_eq_some_iff.1 hg').1; simp at this; omega
                    subst hj0
                    rw [Nat.sub_self] at hg'
                    injection hg' with hg'; subst hg'
                    rw [← HK.out, HFE.out] at hf'; injection hf' with hf'; subst hf'
                    rw [← HK.out]; exact ⟨HGO.out, HXE.out⟩, fun g' hg' => by
                  rcases List.mem_append.1 hg' with h | h
                  · obtain ⟨k1, k2, k3⟩ := HINV6.out.tx g' h
                    refine ⟨fun j u hu => ?_, k2, k3⟩
                    obtain ⟨ad, e1, e2, e3⟩ := k1 j u hu
                    exact ⟨ad, e1, e2, q2.cell e3 (fun e => by have := (HINV6.out.own.lt _ e.symm).1; rw [add_block] at this; omega)⟩
                  · obtain rfl : g' = gt := by simpa using h
                    refine ⟨fun j u hu => ?_, by rw [HGO.out.b]; have := sB_le f.kd (restJ fs bs k); have := HRJ.out k; have := HBL.out; omega, GD.out⟩
                    obtain ⟨ad, e1, e2, e3⟩ := HGT.out.t j u hu
                    exact ⟨ad, e1, e2, q2.cell (T36.out.cell e3 (fun h => h)) (fun e => by have := (HINV6.out.own.lt _ e.symm).1; rw [add_block] at this; omega)⟩⟩)
              have HSL7 := Lib.hid (show SlN w7 (fun i => wz.heap.size ≤ i) gt.A (gt.l.map bv) from fun j u hu => by
                obtain ⟨ad, e1, e2, e3⟩ := HGT.out.s j u hu
                exact ⟨ad, e1, e2, q2.cell (T36.out.cell e3 (fun h => h)) (fun e => by have := (HINV6.out.own.lt _ e.symm).1; rw [add_block] at this; omega)⟩)
              clear q1 q2
              go_wp2_with fail
              go_roundw
              case rel =>
                have hgl : (gs ++ [gt]).length = k + 1 := by rw [List.length_append, ← HK.out]; rfl
                have hrj : gt.l = restJ fs bs (k + 1) := by rw [restJ_next HFE.out, HGO.out.l]
                refine ⟨gs ++ [gt], HINV7.out, HT7.out, by omega, .inl ⟨by rw [hgl]; go_num, rfl, fun j f' hj hf' hk' => ?_, gt.A, gt.l.length, gt.c, rfl, by rw [hgl, hrj], HGT.out.a, HGT.out.c, by rw [hgl, ← hrj]; exact HSL7.out⟩⟩
                rw [hgl] at hj
                by_cases hjk : j = k
                · subst hjk
                  rw [HFE.out] at hf'; injection hf' with hf'; subst hf'
                  exact H41.out hk'
                · exact H40.out j f' (by rw [← HK.out]; omega) hf' hk'
              case measure => simp [intOf]; omega
            · have hxb : ((x : Int) == 0) = false := beq_false_of_ne (by omega)
              have hxz : ¬ (x : Int) = 0 := by omega
              clear t35
              go_wp2_with fail
              go_roundw
              case rel =>
                refine ⟨gs, HINV5.out, HT5.out, by rw [← HK.out]; omega, .inr ⟨x, hx0, hx5, by rw [← HK.out]; exact hlt, by rw [← HK.out]; go_num, rfl, ⟨f, by rw [← HK.out]; exact HFE.out, by rw [← HK.out]; exact HXE.out⟩, fun j f' hj hf' hk' => ?_, _, _, _, rfl⟩⟩
                by_cases hjk : j = k
                · subst hjk
                  rw [HFE.out] at hf'; injection hf' with hf'; subst hf'
                  exact H41.out hk'
                · exact H40.out j f' (by rw [← HK.out] at hj ⊢; omega) hf' hk'
              case measure => simp [intOf]; omega
        · have H41 := Lib.hid (show f.k % 3 = 1 → f.n ≤ 1099511627776 from fun h => absurd h h1)
          obtain ⟨kk, hkk⟩ : ∃ kk, f.k % 3 = kk := ⟨_, rfl⟩
          rw [hkk] at d0
          have t4 : (kk == 1) = false := beq_false_of_ne (by omega)
          have t4' : ¬ kk = 1 := by omega
          clear hkk h1
          go_wp2_with (first
            | (refine wpList_load_row rfl _ _ rfl g rfl _ D (0, 0) _ G3.out Try.underlying30 rfl H1.out ?_)
            | (go_at_call 6; refine stop ?_))
          unfold Stop
          refine TK.out.mono ?_
          rintro r w4 ⟨gt, rfl, gd, ge, gok, t4x⟩
          obtain ⟨GA, hGA⟩ : ∃ GA, GA = gt.cells.toArray := ⟨_, rfl⟩
          have sGA : GA.size = 37 := by rw [hGA, List.size_toArray, gt.len gd]
          have J1 := Lib.hid (show (Try.prog.info? 33).map (·.size) = some GA.size by rw [sGA]; kernel_rfl)
          have J2 := Lib.hid (show Z37.size = GA.size by rw [sGA]; rfl)
          have J3 := Lib.hid (show GA.all (·.oneCell') = true by rw [hGA]; exact gt.one)
          have HGA := Lib.hid hGA
          have GD := Lib.hid gd
          have GE := Lib.hid ge
          have GOKK := Lib.hid gok
          have T4 := Lib.hid t4x
          rw [← hGA]
          clear hGA sGA gd ge gok t4x TK
          go_upto_region 13 with (refine wpList_store_row rfl _ _ _ rfl w4.heap.size GA rfl rfl 33 _ (heap_alloc_new w4 _) J1.out J2.out J3.out ?_; rw [World.setRow_alloc_new])
          obtain ⟨w5, hw5⟩ : ∃ w5, w5 = w4.alloc (.cells GA 33) := ⟨_, rfl⟩
          have G5 := Lib.hid (show w5.heap[w4.heap.size]? = some (.cells GA 33 (0, 0)) by rw [hw5]; exact heap_alloc_new w4 _)
          have t35 : Turn (fun _ => False) w3 w5 := by rw [hw5]; exact T4.out.alloc _
          rw [← hw5]
          have p35 : w5.cell? ⟨w4.heap.size, 35, none⟩ = some (.int .i64 (gt.e : Int)) := by
            rw [cell_of_row _ _ _ _ _ _ G5.out, HGA.out, List.getElem?_toArray]
            unfold Gt.cells
            rw [List.getElem?_append_right (by rw [gt.f.len GD.out]; omega), gt.f.len GD.out]; rfl
          have p36 : w5.cell? ⟨w4.heap.size, 36, none⟩ = some (.slice gt.A gt.l.length gt.c) := by
            rw [cell_of_row _ _ _ _ _ _ G5.out, HGA.out, List.getElem?_toArray]
            unfold Gt.cells
            rw [List.getElem?_append_right (by rw [gt.f.len GD.out]; omega), gt.f.len GD.out]; rfl
          have HT5 := Lib.hid (HT3.out.trans t35 (fun _ _ h => h))
          have HINV5 := Lib.hid (HINV3.out.turn t35)
          have hs5 : wz.heap.size ≤ w5.heap.size := HT5.out.size
          obtain ⟨gb, hgb⟩ : ∃ gb, gb = w4.heap.size := ⟨_, rfl⟩
          rw [← hgb] at p35 p36 G5 ⊢
          obtain ⟨x, hxe⟩ : ∃ x, x = gt.e := ⟨_, rfl⟩
          rw [← hxe] at p35
          have HXE := Lib.hid (show sE f.kd (restJ fs bs k) = x by rw [hxe, GE.out])
          have hx5 : x ≤ 5 := by rw [← HXE.out]; exact sE_le _ _
          clear hw5 HT3 HINV3 HSL3 G3 d0 d1 hgb hxe
          by_cases hx0 : x = 0
          · subst hx0
            obtain ⟨gok, gat⟩ := GOKK.out HXE.out
            have HGO := Lib.hid gok
            have HGT := Lib.hid gat
            have T35 := Lib.hid t35
            clear gok gat t35
            go_wp2_with (refine wpList_load_row (o := ⟨some 59, _, _, _, _, _⟩) rfl _ _ rfl gb rfl _ GA (0, 0) _ G5.out Try.underlying33 rfl J1.out ?_; refine stop ?_)
            unfold Stop
            refine wpList_build_got (o := ⟨some 60, _, _, _, _, _⟩) rfl gt.cells (gt.len GD.out) GA HGA.out #[(0, .tmp 59)] rfl rfl ?_
            obtain ⟨w6, hw6⟩ : ∃ w6, w6 = w5.alloc (.cells GA 33) := ⟨_, rfl⟩
            have t56 : Turn (fun _ => False) w5 w6 := by rw [hw6]; exact (Turn.refl _ w5).alloc _
            have G6 := Lib.hid (show w6.heap[w5.heap.size]? = some (.cells gt.cells.toArray 33 (0, 0)) by rw [hw6, ← HGA.out]; exact heap_alloc_new w5 _)
            have HINV6 := Lib.hid (HINV5.out.turn t56)
            have HT6 := Lib.hid (HT5.out.trans t56 (fun _ _ h => h))
            have T36 := Lib.hid (T35.out.trans t56 (fun _ _ h => h))
            have hs6 : wz.heap.size ≤ w6.heap.size := HT6.out.size
            rw [← hw6]
            clear hw6 t56
            refine wpList_append_own (o := ⟨some 61, _, _, _, _, _⟩) w6 rfl _ _ 25 rfl wz.heap.size 33 j0 (.agg Z37) 37 104 Try.underlying25 hj hy0 hy1 hy2 (by kernel_rfl) (by decide) _ gs.length (gsC gs) rfl HINV6.out.own ⟨w5.heap.size, 0, none⟩ 1 1 gt.cells rfl (by rw [gt.len GD.out]) (fun j u hu => ?_) (fun u hu => gsC_one [gt] u (by simpa [gsC] using hu)) ?_ ?_ hs6 ?_
            · have e : (⟨w5.heap.size, 0, none⟩ : Addr).add j = ⟨w5.heap.size, j, none⟩ := by unfold Addr.add; by_cases hj : j = 0 <;> simp [hj]
              rw [e, cell_of_row _ _ _ _ _ _ G6.out, List.getElem?_toArray]; exact hu
            · unfold maxLen; have := HK.out; omega
            · have := HK.out; omega
            intro v7 w7 q1 q2 _
            have HT7 := Lib.hid (show Turn (fun _ => False) wz w7 from HT6.out.grown q2 (fun i hi e => by have := (HINV6.out.own.lt i e.symm).1; omega))
            have HINV7 := Lib.hid (show LInv fs bs wz.heap.size v7 (gs ++ [gt]) w7 from ⟨by
                rw [List.length_append, List.length_singleton, show gsC (gs ++ [gt]) = gsC gs ++ gt.cells by simp [gsC]]; exact q1, fun j f' g' hf' hg' => by
                rcases Nat.lt_or_ge j gs.length with h | h
                · rw [List.getElem?_append_left h] at hg'; exact HINV6.out.ok j f' g' hf' hg'
                · rw [List.getElem?_append_right h] at hg'
                  have hj0 : j = gs.length := by have := (List.getElem?_eq_some_iff.1 hg').1; simp at this; omega
                  subst hj0
                  rw [Nat.sub_self] at hg'
                  injection hg' with hg'; subst hg'
                  rw [← HK.out, HFE.out] at hf'; injection hf' with hf'; subst hf'
                  rw [← HK.out]; exact ⟨HGO.out, HXE.out⟩, fun g' hg' => by
                rcases List.mem_append.1 hg' with h | h
                · obtain ⟨k1, k2, k3⟩ := HINV6.out.tx g' h
                  refine ⟨fun j u hu => ?_, k2, k3⟩
                  obtain ⟨ad, e1, e2, e3⟩ := k1 j u hu
                  exact ⟨ad, e1, e2, q2.cell e3 (fun e => by have := (HINV6.out.own.lt _ e.symm).1; rw [add_block] at this; omega)⟩
                · obtain rfl : g' = gt := by simpa using h
                  refine ⟨fun j u hu => ?_, by rw [HGO.out.b]; have := sB_le f.kd (restJ fs bs k); have := HRJ.out k; have := HBL.out; omega, GD.out⟩
                  obtain ⟨ad, e1, e2, e3⟩ := HGT.out.t j u hu
                  exact ⟨ad, e1, e2, q2.cell (T36.out.cell e3 (fun h => h)) (fun e => by have := (HINV6.out.own.lt _ e.symm).1; rw [add_block] at this; omega)⟩⟩)
            have HSL7 := Lib.hid (show SlN w7 (fun i => wz.heap.size ≤ i) gt.A (gt.l.map bv) from fun j u hu => by
              obtain ⟨ad, e1, e2, e3⟩ := HGT.out.s j u hu
              exact ⟨ad, e1, e2, q2.cell (T36.out.cell e3 (fun h => h)) (fun e => by have := (HINV6.out.own.lt _ e.symm).1; rw [add_block] at this; omega)⟩)
            clear q1 q2
            go_wp2_with fail
            go_roundw
            case rel =>
              have hgl : (gs ++ [gt]).length = k + 1 := by rw [List.length_append, ← HK.out]; rfl
              have hrj : gt.l = restJ fs bs (k + 1) := by rw [restJ_next HFE.out, HGO.out.l]
              refine ⟨gs ++ [gt], HINV7.out, HT7.out, by omega, .inl ⟨by rw [hgl]; go_num, rfl, fun j f' hj hf' hk' => ?_, gt.A, gt.l.length, gt.c, rfl, by rw [hgl, hrj], HGT.out.a, HGT.out.c, by rw [hgl, ← hrj]; exact HSL7.out⟩⟩
              rw [hgl] at hj
              by_cases hjk : j = k
              · subst hjk
                rw [HFE.out] at hf'; injection hf' with hf'; subst hf'
                exact H41.out hk'
              · exact H40.out j f' (by rw [← HK.out]; omega) hf' hk'
            case measure => simp [intOf]; omega
          · have hxb : ((x : Int) == 0) = false := beq_false_of_ne (by omega)
            have hxz : ¬ (x : Int) = 0 := by omega
            clear t35
            go_wp2_with fail
            go_roundw
            case rel =>
              refine ⟨gs, HINV5.out, HT5.out, by rw [← HK.out]; omega, .inr ⟨x, hx0, hx5, by rw [← HK.out]; exact hlt, by rw [← HK.out]; go_num, rfl, ⟨f, by rw [← HK.out]; exact HFE.out, by rw [← HK.out]; exact HXE.out⟩, fun j f' hj hf' hk' => ?_, _, _, _, rfl⟩⟩
              by_cases hjk : j = k
              · subst hjk
                rw [HFE.out] at hf'; injection hf' with hf'; subst hf'
                exact H41.out hk'
              · exact H40.out j f' (by rw [← HK.out] at hj ⊢; omega) hf' hk'
            case measure => simp [intOf]; omega
      · have t2 : decide ((k : Int) < (n : Int)) = false := by rw [decide_eq_false_iff_not]; omega
        obtain rfl : k = n := by omega
        obtain ⟨x, hx⟩ : ∃ x : Nat, x = if restJ fs bs gs.length = [] then 0 else 3 := ⟨_, rfl⟩
        have HXX := Lib.hid hx
        have HNF := Lib.hid (show gs.length = fs.length by rw [← HK.out, HN.out])
        have HXE := Lib.hid (show (gs.length = fs.length ∨ ((0 : Nat) ≠ 0 ∧ ∃ f, fs[gs.length]? = some f ∧ sE f.kd (restJ fs bs gs.length) = 0)) from .inl HNF.out)
        have H4F := Lib.hid (show ∀ j f, j ≤ gs.length → fs[j]? = some f → f.k % 3 = 1 → f.n ≤ 1099511627776 from fun j f hj hf => by
          rcases Nat.lt_or_ge j gs.length with h | h
          · exact H40.out j f h hf
          · rw [List.getElem?_eq_none (by rw [← HNF.out]; exact h)] at hf; cases hf)
        clear hx
        by_cases hnil : nl = 0
        · have hx0 : x = 0 := by
            rw [HXX.out, if_pos]
            exact List.eq_nil_of_length_eq_zero (by rw [← HNL.out]; exact hnil)
          subst hx0
          subst hnil
          have HREX := Lib.hid (show ∀ r : Ending, ((gs.length = fs.length ∧ r = .returned (.int .i64 (if restJ fs bs gs.length = [] then 0 else 3))) ∨ ((0 : Nat) ≠ 0 ∧ gs.length < fs.length ∧ r = .returned (.int .i64 ((0 : Nat) : Int)))) → r = .returned (.int .i64 0) from fun r h => by
            rcases h with ⟨_, rfl⟩ | ⟨h, _⟩
            · rw [if_pos (List.eq_nil_of_length_eq_zero HNL.out.symm)]
            · exact absurd rfl h)
          obtain ⟨Aw, cw, hvw, hcw, hwant⟩ := HINV.out.want
          subst hvw
          have TW := Lib.hid (TZ.out.trans HT.out (fun _ _ h => h))
          have HWT := Lib.hid hwant
          have HO1 := Lib.hid (heap_alloc_new wr (.cells (heldC A' k c' Aw k cw 0 true) 37))
          have ta := (Turn.refl (fun _ => False) wr).alloc (.cells (heldC A' k c' Aw k cw 0 true) 37)
          have hwz : wz.heap.size ≤ wr.heap.size := HT.out.size
          have hww : w.heap.size ≤ wr.heap.size := TW.out.size
          have RH := Lib.hid (read_held wr.heap.size A c bs A' c' fs Aw gs.length cw gs 0 (wr.alloc (.cells (heldC A' k c' Aw k cw 0 true) 37))
            (((SlN.of (N := fun i => i = wr.heap.size) HS.out (fun i hi h => by omega)).turn TW.out (fun _ h => h.elim) (N' := fun i => i = wr.heap.size) (fun i hi h => h)).turn ta (fun _ h => h.elim) (N' := fun i => i = wr.heap.size) (fun i hi h => h))
            HA.out (by rw [← HBL.out]; exact hc) (by rw [← HBL.out]; omega) (by rw [← HN.out, ← HK.out]; exact HO1.out) (by rw [← HN.out]; omega)
            (fun i f hf => by
              obtain ⟨q1, b, o, q2, q3, q4⟩ := ((HF.out.turn TW.out (fun _ _ h => h)).turn ta (fun _ _ h => h)) i f hf
              exact ⟨⟨q1.k0, q1.k1, q1.n, q1.s.more (by omega), q1.a, q1.c, q1.m, q1.d⟩, b, o, q2, by omega, q4⟩)
            (HWT.out _ _ ta (Nat.le_refl _) hwz) rfl hcw (by rw [← HK.out, ← HN.out]; omega) HINV.out.ok HXE.out H4F.out (fun j => by have := HRJ.out j; have := HBL.out; omega))
          rw [← HBL.out] at RH
          have ehc : (heldC A' k c' Aw k cw 0 true) = #[.slice A' k c', .slice Aw k cw, .int .i64 0, .bool true] := rfl
          rw [← HK.out]
          rw [← HK.out] at RH hcw
          unfold heldC at RH
          clear hwant ta ehc
          go_wp2_with (go_at_call 7; refine stop ?_)
          unfold Stop
          refine RH.out.mono ?_
          rintro r w2 ⟨t2x, ho2, hr⟩
          have hr2 := HREX.out r (by rw [← HK.out]; exact hr)
          subst hr2
          have q2 : w2.cell? ⟨wr.heap.size, 2, none⟩ = some (.int .i64 (k : Int)) := by rw [cell_of_row w2 _ 2 _ _ _ ho2]; rfl
          have q3 : w2.cell? ⟨wr.heap.size, 3, none⟩ = some (.bool true) := by rw [cell_of_row w2 _ 3 _ _ _ ho2]; rfl
          have T2 := Lib.hid ((TW.out.alloc (.cells (heldC A' k c' Aw k cw 0 true) 37)).trans t2x (fun i hi h => by omega))
          clear t2x ho2 hr RH
          go_wp2_with (go_at_call 4; refine (AW.out _).mono ?_; rintro r w9 ⟨rfl, t9⟩)
          go_ret
          exact ⟨rfl, T2.out.trans t9 (fun _ _ h => h)⟩
        · have t5 : decide ((0 : Int) < (nl : Int)) = true := by rw [decide_eq_true_eq]; omega
          have HREX := Lib.hid (show ∀ r : Ending, ((gs.length = fs.length ∧ r = .returned (.int .i64 (if restJ fs bs gs.length = [] then 0 else 3))) ∨ ((0 : Nat) ≠ 0 ∧ gs.length < fs.length ∧ r = .returned (.int .i64 ((0 : Nat) : Int)))) → r = .returned (.int .i64 3) from fun r h => by
            rcases h with ⟨_, rfl⟩ | ⟨h, _⟩
            · rw [if_neg]
              intro e
              have := HNL.out
              rw [e] at this; exact hnil this
            · exact absurd rfl h)
          obtain ⟨Aw, cw, hvw, hcw, hwant⟩ := HINV.out.want
          subst hvw
          have TW := Lib.hid (TZ.out.trans HT.out (fun _ _ h => h))
          have HWT := Lib.hid hwant
          have HO1 := Lib.hid (heap_alloc_new wr (.cells (heldC A' k c' Aw k cw 0 true) 37))
          have ta := (Turn.refl (fun _ => False) wr).alloc (.cells (heldC A' k c' Aw k cw 0 true) 37)
          have hwz : wz.heap.size ≤ wr.heap.size := HT.out.size
          have hww : w.heap.size ≤ wr.heap.size := TW.out.size
          have RH := Lib.hid (read_held wr.heap.size A c bs A' c' fs Aw gs.length cw gs 0 (wr.alloc (.cells (heldC A' k c' Aw k cw 0 true) 37))
            (((SlN.of (N := fun i => i = wr.heap.size) HS.out (fun i hi h => by omega)).turn TW.out (fun _ h => h.elim) (N' := fun i => i = wr.heap.size) (fun i hi h => h)).turn ta (fun _ h => h.elim) (N' := fun i => i = wr.heap.size) (fun i hi h => h))
            HA.out (by rw [← HBL.out]; exact hc) (by rw [← HBL.out]; omega) (by rw [← HN.out, ← HK.out]; exact HO1.out) (by rw [← HN.out]; omega)
            (fun i f hf => by
              obtain ⟨q1, b, o, q2, q3, q4⟩ := ((HF.out.turn TW.out (fun _ _ h => h)).turn ta (fun _ _ h => h)) i f hf
              exact ⟨⟨q1.k0, q1.k1, q1.n, q1.s.more (by omega), q1.a, q1.c, q1.m, q1.d⟩, b, o, q2, by omega, q4⟩)
            (HWT.out _ _ ta (Nat.le_refl _) hwz) rfl hcw (by rw [← HK.out, ← HN.out]; omega) HINV.out.ok HXE.out H4F.out (fun j => by have := HRJ.out j; have := HBL.out; omega))
          rw [← HBL.out] at RH
          have ehc : (heldC A' k c' Aw k cw 0 true) = #[.slice A' k c', .slice Aw k cw, .int .i64 0, .bool true] := rfl
          rw [← HK.out]
          rw [← HK.out] at RH hcw
          unfold heldC at RH
          clear hwant ta ehc
          go_wp2_with (go_at_call 7; refine stop ?_)
          unfold Stop
          refine RH.out.mono ?_
          rintro r w2 ⟨t2x, ho2, hr⟩
          have hr2 := HREX.out r (by rw [← HK.out]; exact hr)
          subst hr2
          have q2 : w2.cell? ⟨wr.heap.size, 2, none⟩ = some (.int .i64 (k : Int)) := by rw [cell_of_row w2 _ 2 _ _ _ ho2]; rfl
          have q3 : w2.cell? ⟨wr.heap.size, 3, none⟩ = some (.bool true) := by rw [cell_of_row w2 _ 3 _ _ _ ho2]; rfl
          have T2 := Lib.hid ((TW.out.alloc (.cells (heldC A' k c' Aw k cw 0 true) 37)).trans t2x (fun i hi h => by omega))
          clear t2x ho2 hr RH
          go_wp2_with (go_at_call 4; refine (AW.out _).mono ?_; rintro r w9 ⟨rfl, t9⟩)
          go_ret
          exact ⟨rfl, T2.out.trans t9 (fun _ _ h => h)⟩
    · obtain ⟨x, hx0, hx5, hgl, rfl, rfl, hfx, h40, Al, nl, cl, rfl⟩ := hbad
      obtain ⟨k, hk⟩ : ∃ k, k = gs.length := ⟨_, rfl⟩
      have HINV := Lib.hid hinv
      have HT := Lib.hid ht
      have HK := Lib.hid hk
      have HXE := Lib.hid (show (gs.length = fs.length ∨ (x ≠ 0 ∧ ∃ f, fs[gs.length]? = some f ∧ sE f.kd (restJ fs bs gs.length) = x)) from .inr ⟨hx0, hfx⟩)
      have H4F := Lib.hid (show ∀ j f, j ≤ gs.length → fs[j]? = some f → f.k % 3 = 1 → f.n ≤ 1099511627776 from fun j f hj hf => h40 j f (by omega) hf)
      have hxz : ¬ (x : Int) = 0 := by omega
      have hxb : ((x : Int) == 0) = false := beq_false_of_ne hxz
      have HREX := Lib.hid (show ∀ r : Ending, ((gs.length = fs.length ∧ r = .returned (.int .i64 (if restJ fs bs gs.length = [] then 0 else 3))) ∨ (x ≠ 0 ∧ gs.length < fs.length ∧ r = .returned (.int .i64 (x : Int)))) → r = .returned (.int .i64 (x : Int)) from fun r h => by
        rcases h with ⟨h, _⟩ | ⟨_, _, h⟩
        · have := HN.out; omega
        · exact h)
      rw [← hk] at hgl hgn ⊢
      clear hinv ht hk hfx h40 hx0
      by_cases hlt : k + 1 < n
      · have t2 : decide (((k + 1 : Nat) : Int) < (n : Int)) = true := by rw [decide_eq_true_eq]; omega
        have t2' : decide ((k : Int) + 1 < (n : Int)) = true := by rw [decide_eq_true_eq]; omega
        obtain ⟨Aw, cw, hvw, hcw, hwant⟩ := HINV.out.want
        subst hvw
        have TW := Lib.hid (TZ.out.trans HT.out (fun _ _ h => h))
        have HWT := Lib.hid hwant
        have HO1 := Lib.hid (heap_alloc_new wr (.cells (heldC A' n c' Aw k cw 0 true) 37))
        have ta := (Turn.refl (fun _ => False) wr).alloc (.cells (heldC A' n c' Aw k cw 0 true) 37)
        have hwz : wz.heap.size ≤ wr.heap.size := HT.out.size
        have hww : w.heap.size ≤ wr.heap.size := TW.out.size
        have RH := Lib.hid (read_held wr.heap.size A c bs A' c' fs Aw gs.length cw gs x (wr.alloc (.cells (heldC A' n c' Aw k cw 0 true) 37))
          (((SlN.of (N := fun i => i = wr.heap.size) HS.out (fun i hi h => by omega)).turn TW.out (fun _ h => h.elim) (N' := fun i => i = wr.heap.size) (fun i hi h => h)).turn ta (fun _ h => h.elim) (N' := fun i => i = wr.heap.size) (fun i hi h => h))
          HA.out (by rw [← HBL.out]; exact hc) (by rw [← HBL.out]; omega) (by rw [← HN.out, ← HK.out]; exact HO1.out) (by rw [← HN.out]; omega)
          (fun i f hf => by
            obtain ⟨q1, b, o, q2, q3, q4⟩ := ((HF.out.turn TW.out (fun _ _ h => h)).turn ta (fun _ _ h => h)) i f hf
            exact ⟨⟨q1.k0, q1.k1, q1.n, q1.s.more (by omega), q1.a, q1.c, q1.m, q1.d⟩, b, o, q2, by omega, q4⟩)
          (HWT.out _ _ ta (Nat.le_refl _) hwz) rfl hcw (by rw [← HK.out, ← HN.out]; omega) HINV.out.ok HXE.out H4F.out (fun j => by have := HRJ.out j; have := HBL.out; omega))
        rw [← HBL.out] at RH
        have ehc : (heldC A' n c' Aw k cw 0 true) = #[.slice A' n c', .slice Aw k cw, .int .i64 0, .bool true] := rfl
        rw [← HK.out]
        rw [← HK.out] at RH hcw
        unfold heldC at RH
        clear hwant ta ehc
        go_wp2_with (go_at_call 7; refine stop ?_)
        unfold Stop
        refine RH.out.mono ?_
        rintro r w2 ⟨t2x, ho2, hr⟩
        have hr2 := HREX.out r (by rw [← HK.out]; exact hr)
        subst hr2
        have q2 : w2.cell? ⟨wr.heap.size, 2, none⟩ = some (.int .i64 (k : Int)) := by rw [cell_of_row w2 _ 2 _ _ _ ho2]; rfl
        have q3 : w2.cell? ⟨wr.heap.size, 3, none⟩ = some (.bool true) := by rw [cell_of_row w2 _ 3 _ _ _ ho2]; rfl
        have T2 := Lib.hid ((TW.out.alloc (.cells (heldC A' n c' Aw k cw 0 true) 37)).trans t2x (fun i hi h => by omega))
        clear t2x ho2 hr RH
        go_wp2_with (go_at_call 4; refine (AW.out _).mono ?_; rintro r w9 ⟨rfl, t9⟩)
        go_ret
        exact ⟨rfl, T2.out.trans t9 (fun _ _ h => h)⟩
      · have t2 : decide (((k + 1 : Nat) : Int) < (n : Int)) = false := by rw [decide_eq_false_iff_not]; omega
        have t2' : decide ((k : Int) + 1 < (n : Int)) = false := by rw [decide_eq_false_iff_not]; omega
        obtain ⟨Aw, cw, hvw, hcw, hwant⟩ := HINV.out.want
        subst hvw
        have TW := Lib.hid (TZ.out.trans HT.out (fun _ _ h => h))
        have HWT := Lib.hid hwant
        have HO1 := Lib.hid (heap_alloc_new wr (.cells (heldC A' n c' Aw k cw 0 true) 37))
        have ta := (Turn.refl (fun _ => False) wr).alloc (.cells (heldC A' n c' Aw k cw 0 true) 37)
        have hwz : wz.heap.size ≤ wr.heap.size := HT.out.size
        have hww : w.heap.size ≤ wr.heap.size := TW.out.size
        have RH := Lib.hid (read_held wr.heap.size A c bs A' c' fs Aw gs.length cw gs x (wr.alloc (.cells (heldC A' n c' Aw k cw 0 true) 37))
          (((SlN.of (N := fun i => i = wr.heap.size) HS.out (fun i hi h => by omega)).turn TW.out (fun _ h => h.elim) (N' := fun i => i = wr.heap.size) (fun i hi h => h)).turn ta (fun _ h => h.elim) (N' := fun i => i = wr.heap.size) (fun i hi h => h))
          HA.out (by rw [← HBL.out]; exact hc) (by rw [← HBL.out]; omega) (by rw [← HN.out, ← HK.out]; exact HO1.out) (by rw [← HN.out]; omega)
          (fun i f hf => by
            obtain ⟨q1, b, o, q2, q3, q4⟩ := ((HF.out.turn TW.out (fun _ _ h => h)).turn ta (fun _ _ h => h)) i f hf
            exact ⟨⟨q1.k0, q1.k1, q1.n, q1.s.more (by omega), q1.a, q1.c, q1.m, q1.d⟩, b, o, q2, by omega, q4⟩)
          (HWT.out _ _ ta (Nat.le_refl _) hwz) rfl hcw (by rw [← HK.out, ← HN.out]; omega) HINV.out.ok HXE.out H4F.out (fun j => by have := HRJ.out j; have := HBL.out; omega))
        rw [← HBL.out] at RH
        have ehc : (heldC A' n c' Aw k cw 0 true) = #[.slice A' n c', .slice Aw k cw, .int .i64 0, .bool true] := rfl
        rw [← HK.out]
        rw [← HK.out] at RH hcw
        unfold heldC at RH
        clear hwant ta ehc
        go_wp2_with (go_at_call 7; refine stop ?_)
        unfold Stop
        refine RH.out.mono ?_
        rintro r w2 ⟨t2x, ho2, hr⟩
        have hr2 := HREX.out r (by rw [← HK.out]; exact hr)
        subst hr2
        have q2 : w2.cell? ⟨wr.heap.size, 2, none⟩ = some (.int .i64 (k : Int)) := by rw [cell_of_row w2 _ 2 _ _ _ ho2]; rfl
        have q3 : w2.cell? ⟨wr.heap.size, 3, none⟩ = some (.bool true) := by rw [cell_of_row w2 _ 3 _ _ _ ho2]; rfl
        have T2 := Lib.hid ((TW.out.alloc (.cells (heldC A' n c' Aw k cw 0 true) 37)).trans t2x (fun i hi h => by omega))
        clear t2x ho2 hr RH
        go_wp2_with (go_at_call 4; refine (AW.out _).mono ?_; rintro r w9 ⟨rfl, t9⟩)
        go_ret
        exact ⟨rfl, T2.out.trans t9 (fun _ _ h => h)⟩
theorem fieldReads_walk (A : Option Addr) (c : Nat) (bs : List B8) (A' : Option Addr) (c' : Nat) (fs : List Fd) (w : World) (hs : Sl w w.heap.size A (bs.map bv)) (hA : A = none → c = 0) (hc : bs.length ≤ c) (hm : bs.length ≤ maxLen) (hf : Fds w w.heap.size A' fs) (hm' : fs.length ≤ maxLen) :
    Calls Try.prog 3 #[.slice A bs.length c, .slice A' fs.length c'] w fun e w' => e = .returned (.bool true) ∧ Below w.heap.size w w' :=
  (fieldReads_any A c bs A' c' fs w hs hA hc hm hf hm').mono fun _ _ ⟨h, t⟩ => ⟨h, t.below (fun _ _ h => h.elim) (Nat.le_refl _)⟩
end Go.Proofs.Ytciohmlobknhlaa
