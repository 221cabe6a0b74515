/- 'CertTurned': its walk. -/
import Derived.Test.YthoaaieiiokcmaaGreatDoorM26
import Derived.Test.YthoaaieiiokcmaaGreatDoorM31
import Derived.Test.YthoaaieiiokcmaaGreatDoorM33
import Derived.Test.YthoaaieiiokcmaaGreatDoorM34
import Derived.Test.YthoaaieiiokcmaaGreatDoorM35
import Derived.Deep.DeepCutAuto
import Derived.Deep.RegionHeld3
import Derived.Deep.AppendLies
import Derived.Deep.RegionLaw
import Derived.Deep.DrawnRows
import Derived.StillTailTactics
set_option linter.unusedVariables false
set_option linter.unusedSimpArgs false
namespace Go.Proofs.YthoaaieiiokcmaaGreatDoor
open Go.RowKit Go.ChangeShapes Go.WideShapes Go.ChangeAt
attribute [local go_sem ↓] loadAt_cr loadAt_hd loadAt_en loadAt_id
attribute [local go_sem] run_crLoad run_hdLoad run_enLoad run_idLoad rowOf_drew rowOf_drewN
theorem xor_byte (p q : Int) : ∃ y : B8, bits .xor .u8 p q = (y.toNat : Int) :=
  ⟨BitVec.ofInt 8 p ^^^ BitVec.ofInt 8 q, by
    unfold bits
    rw [IntKind.wrap_u8]
    have := (BitVec.ofInt 8 p ^^^ BitVec.ofInt 8 q).isLt
    show (((BitVec.ofInt 8 p ^^^ BitVec.ofInt 8 q).toNat : Nat) : Int) % 256 = _
    omega⟩
theorem mkC_L (seed cmd : List B8) (e : Ent) (n : Nat) (hd : e.d.length = 32) : (mkC seed cmd e n).L := by
  unfold mkC
  exact ⟨hd, nxB_L _ _ _ _ _ (rootD_len _), signD_len _ _ _, fun d h => pathZ_ids (LSof cmd e n) d (by rw [show pathZ (LSof cmd e n) 1 = pathD (LSof cmd e n) 1 from pathZ_nat _ 1]; exact h)⟩
theorem mkC_ids (seed cmd : List B8) (e : Ent) (n : Nat) : (mkC seed cmd e n).ids.length ≤ 3 := by
  have := pathD_size 3 (LSof cmd e n) 1 (LSof_le _ _ _)
  exact this
theorem okL_of {cmd : List B8} {e : Ent} {n : Nat} (h : okMk cmd e n) : okL e n := by
  have h3 : (LSof cmd e n).length = 3 := h.1
  unfold LSof at h3
  by_cases hl : okL e n
  · exact hl
  · rw [if_neg hl] at h3; cases h3
theorem mkC_mkX (seed cmd : List B8) (e : Ent) (n : Nat) (h : okMk cmd e n) : mkC seed cmd e n = mkX seed 64 (LSof cmd e n) e (nxB HZ true (rootD (LSof cmd e n)) e.s e.p) := by
  have hh := h.2.2
  obtain ⟨hd, hhd⟩ : ∃ hd, hd = nxB HZ true (rootD (LSof cmd e n)) e.s e.p := ⟨_, rfl⟩
  have hs : hd.s = e.s := by rw [hhd]; rfl
  rw [← hhd] at hh
  unfold mkC mkX
  rw [← hhd]
  have h0 : 0 ≤ e.s ∧ e.s < ((64 : Nat) : Int) := by rw [← hs]; unfold okH at hh; omega
  unfold signZ
  rw [hs, if_pos h0, Option.getD_some]
theorem isC_mkC (seed cmd : List B8) (e : Ent) (n : Nat) (h : okMk cmd e n) : isC seed 64 (mkC seed cmd e n) = true := by
  have hh := h.2.2
  rw [mkC_mkX seed cmd e n h]
  have := isC_made seed 64 cmd e n (nxB HZ true (rootD (LSof cmd e n)) e.s e.p) (okL_of h) hh rfl rfl rfl
  refine this.trans (decide_eq_true ?_)
  unfold okH at hh
  omega
theorem formC_ge (seed cmd : List B8) (e : Ent) (n : Nat) (hd : e.d.length = 32) (h : okMk cmd e n) : 100 ≤ (formC (mkC seed cmd e n)).length ∧ (formC (mkC seed cmd e n)).length ≤ 10000 := by
  have hL := mkC_L seed cmd e n hd
  have hH := h.2.2
  have he := (okL_of h).1
  have hids := mkC_ids seed cmd e n
  have hE : (mkC seed cmd e n).e = e := rfl
  have hHH : (mkC seed cmd e n).h = nxB HZ true (rootD (LSof cmd e n)) e.s e.p := rfl
  generalize mkC seed cmd e n = x at *
  have f := flat32_len x.ids hL.2.2.2 x.ids.length (Nat.le_refl _)
  rw [List.take_length] at f
  have p1 : (pE x.e).length ≤ 100 := pE_le2 x.e hL.1
  have p2 : (pH x.h).length ≤ 91 := pH_le x.h hL.2.1
  have q1 : 32 ≤ (pE x.e).length := by
    rw [hE]; unfold pE formE; rw [if_pos he]
    simp only [List.length_append]; omega
  have q2 : 64 ≤ (pH x.h).length := by
    rw [hHH]; unfold pH formH; rw [if_pos hH]
    have hl := nxB_L HZ true (rootD (LSof cmd e n)) e.s e.p (rootD_len _)
    have := hl.1
    have := hl.2
    simp only [List.length_append]; omega
  have n1 := numB_le (n := (pE x.e).length) (by omega)
  have n2 := numB_le (n := x.ids.length) (by omega)
  have n3 := numB_le (n := (pH x.h).length) (by omega)
  have t := hL.2.2.1
  unfold formC
  simp only [List.length_append]
  omega
set_option maxRecDepth 100000 in
set_option maxHeartbeats 16000000 in
theorem certTurned_any (A0 : Option Addr) (c0 : Nat) (seed : List B8) (A1 : Option Addr) (c1 : Nat) (cmd : List B8) (e : Ent) (at' : Int) (bt : Nat) (w : World) (hK : Bts w A0 seed) (hA0 : A0 = none → c0 = 0) (hc0 : seed.length ≤ c0) (hm0 : seed.length ≤ maxLen) (hB : Bts w A1 cmd) (hA1 : A1 = none → c1 = 0) (hc1 : cmd.length ≤ c1) (hm1 : cmd.length ≤ maxLen) (hd : e.d.length = 32) (hbt : bt < 256) (hG : Glob w) :
    Calls Tryz.prog 3 #[.slice A0 seed.length c0, .slice A1 cmd.length c1, .agg e.cells.toArray, .int .i64 at', .int .u8 (bt : Int)] w fun r w' => r = .returned (.bool true) ∧ Turn (fun _ => False) w w' := by
  unfold maxLen at hm0 hm1
  obtain ⟨EL, hEL⟩ : ∃ L, L = e.cells.toArray := ⟨_, rfl⟩
  obtain ⟨w1, hw1⟩ : ∃ w1, w1 = w.alloc (.cells EL 27) := ⟨_, rfl⟩
  have t1 : Turn (fun _ => False) w w1 := by rw [hw1]; exact (Turn.refl _ _).alloc _
  have e1 : EAt w1 w.heap.size e := by unfold EAt; rw [← hEL, hw1]; exact heap_alloc_new _ _
  have RF := Lib.hid (fun (w' : World) (t : Turn (fun _ => False) w1 w') => show rowOf w' w.heap.size 0 37 = some EL from by rw [hEL]; exact (e1.turn t (fun h => h)).row hd)
  have KX := Lib.hid (fun (w' : World) (t : Turn (fun _ => False) w1 w') => show Bts w' A0 seed from bts_turn (bts_turn hK t1) t)
  have BX := Lib.hid (fun (w' : World) (t : Turn (fun _ => False) w1 w') => show Bts w' A1 cmd from bts_turn (bts_turn hB t1) t)
  have GX := Lib.hid (fun (w' : World) (t : Turn (fun _ => False) w1 w') => show Glob w' from glob_turn (glob_turn hG t1) t)
  have AW := Lib.hid (fun (w' : World) (h : Glob w') => cawake_any w' h)
  have T1 := Lib.hid t1
  have HEL := Lib.hid hEL
  have HKA := Lib.hid (And.intro (And.intro hc0 hA0) (And.intro hc1 hA1))
  have HD := Lib.hid hd
  rw [← hEL]
  clear t1 e1 hK hB hG hEL hA0 hc0 hA1 hc1 hd
  by_cases hk2 : 60 < seed.length
  · have t0 : decide (60 < (seed.length : Int)) = true := by rw [decide_eq_true_eq]; omega
    generalize seed.length = sl at *
    generalize cmd.length = cl at *
    go_enter Tryz.func3, Tryz.ntmps3
    go_upto_region 1 with fail
    change Code.wp _ _ _ _ (w.alloc (.cells EL 27))
    rw [← hw1]
    clear hw1
    have r1 := RF.out w1 (Turn.refl _ _)
    go_wp2_with (go_at_call 4; refine stop ?_)
    unfold Stop
    refine (AW.out w1 (GX.out w1 (Turn.refl _ _))).mono ?_
    rintro r w2 ⟨rfl, t2⟩
    have T2 := Lib.hid t2
    clear t2 r1
    go_wp2
    go_ret
    exact ⟨rfl, T1.out.trans T2.out (fun _ _ h => h)⟩
  have t0 : decide (60 < (seed.length : Int)) = false := by rw [decide_eq_false_iff_not]; omega
  by_cases hk3 : 60 < cmd.length
  · have t2 : decide (60 < (cmd.length : Int)) = true := by rw [decide_eq_true_eq]; omega
    generalize seed.length = sl at *
    generalize cmd.length = cl at *
    go_enter Tryz.func3, Tryz.ntmps3
    go_upto_region 1 with fail
    change Code.wp _ _ _ _ (w.alloc (.cells EL 27))
    rw [← hw1]
    clear hw1
    have r1 := RF.out w1 (Turn.refl _ _)
    go_wp2_with (go_at_call 4; refine stop ?_)
    unfold Stop
    refine (AW.out w1 (GX.out w1 (Turn.refl _ _))).mono ?_
    rintro r w2 ⟨rfl, t2⟩
    have T2 := Lib.hid t2
    clear t2 r1
    go_wp2
    go_ret
    exact ⟨rfl, T1.out.trans T2.out (fun _ _ h => h)⟩
  have t2 : decide (60 < (cmd.length : Int)) = false := by rw [decide_eq_false_iff_not]; omega
  have KS := Lib.hid (fun (w' : World) hK hG => keys_some A0 c0 64 seed w' hK HKA.out.1.1 hG (by omega) (by decide) (by decide))
  have MD := Lib.hid (fun (w' : World) hK hB => rcmade_any A0 c0 seed A1 c1 cmd e 5 w' hK HKA.out.1.2 HKA.out.1.1 (by omega) hB HKA.out.2.2 HKA.out.2.1 (by omega) HD.out (by decide))
  have RI := Lib.hid (fun (x : Crt) (A : Option Addr) (c : Nat) (w' : World) hK hx px => rcis_any A0 c0 seed 64 x A c w' hK HKA.out.1.2 HKA.out.1.1 (by omega) hx px (by decide))
  have IS := Lib.hid (fun (gr gk : Nat) (x : Crt) (A : Option Addr) (c : Nat) (w' : World) hR hG hx px mx => cis_any gr gk 64 seed x A c w' hR (by decide) hG hx px mx)
  have FX := Lib.hid (fun (h : okMk cmd e 5) => formC_ge seed cmd e 5 HD.out h)
  have IM := Lib.hid (fun (h : okMk cmd e 5) => isC_mkC seed cmd e 5 h)
  have ML := Lib.hid (mkC_L seed cmd e 5 HD.out)
  have MI := Lib.hid (mkC_ids seed cmd e 5)
  rw [← HEL.out] at MD
  obtain ⟨sl, hsl⟩ : ∃ n, n = seed.length := ⟨_, rfl⟩
  obtain ⟨cl, hcl⟩ : ∃ n, n = cmd.length := ⟨_, rfl⟩
  rw [← hsl] at KS MD RI t0
  rw [← hcl] at MD t2
  rw [← hsl, ← hcl]
  clear hk2 hk3 hsl hcl hm0 hm1
  have hcz := cr_zero
  obtain ⟨ZC, hZC⟩ : ∃ L, L = (CZ.cells none 0).toArray := ⟨_, rfl⟩
  rw [← hZC] at hcz MD
  have sZ : ZC.size = 137 := by rw [hZC, List.size_toArray, Crt.len _ _ _ CZ_L]
  have K1 := Lib.hid (show (Tryz.prog.info? 35).map (·.size) = some ZC.size by rw [sZ]; exact cr_info)
  have K3 := Lib.hid (show ZC.all (·.oneCell') = true by rw [hZC]; exact Crt.one _ _ _)
  have HSZ := Lib.hid sZ
  clear hZC sZ
  unfold ringV at *
  by_cases hok : okMk cmd e 5
  rotate_left 1
  · simp only [if_neg hok] at MD
    clear hok
    go_enter Tryz.func3, Tryz.ntmps3
    go_upto_region 1 with fail
    change Code.wp _ _ _ _ (w.alloc (.cells EL 27))
    rw [← hw1]
    clear hw1
    have r1 := RF.out w1 (Turn.refl _ _)
    go_wp2_with (go_at_call 5; refine stop ?_)
    unfold Stop
    refine (KS.out w1 (KX.out w1 (Turn.refl _ _)) (GX.out w1 (Turn.refl _ _))).mono ?_
    rintro r w3 ⟨gr, gk, rfl, hR, hb3⟩
    have T3 := Lib.hid (of_turn hb3)
    have RX := Lib.hid (fun (w' : World) (t : Turn (fun _ => False) w3 w') => show RingAt w' gr gk seed 64 from hR.below (turn_stp' t))
    clear hR hb3 r1
    have r1 := RF.out w3 T3.out
    go_wp2_with (go_at_call 6; refine stop ?_)
    unfold Stop
    refine (MD.out w3 (KX.out w3 T3.out) (BX.out w3 T3.out)).mono ?_
    rintro r w4 ⟨t, rfl⟩
    have T4 := Lib.hid (T3.out.trans t (fun _ _ h => h))
    clear t r1
    go_upto_region 5 with (refine wpList_store_row rfl _ _ _ rfl w4.heap.size ZC rfl rfl 35 _ (heap_alloc_new w4 _) K1.out rfl K3.out ?_; rw [World.setRow_alloc_new])
    obtain ⟨w5, hw5⟩ : ∃ w5, w5 = w4.alloc (.cells ZC 35) := ⟨_, rfl⟩
    have t5 : Turn (fun _ => False) w4 w5 := by rw [hw5]; exact (Turn.refl _ _).alloc _
    change Code.wp _ _ _ _ (w4.alloc (.cells ZC 35))
    rw [← hw5]
    have T5 := Lib.hid (T4.out.trans t5 (fun _ _ h => h))
    clear hw5 t5
    go_wp2_with (go_at_call 4; refine stop ?_)
    unfold Stop
    refine (AW.out w5 (GX.out w5 T5.out)).mono ?_
    rintro r w6 ⟨rfl, t⟩
    have T6 := Lib.hid (T5.out.trans t (fun _ _ h => h))
    clear t
    go_wp2
    go_ret
    exact ⟨rfl, T1.out.trans T6.out (fun _ _ h => h)⟩
  simp only [if_pos hok] at MD
  obtain ⟨hl1, hl2⟩ := FX.out hok
  have hIM := IM.out hok
  clear hok IM FX
  generalize mkC seed cmd e 5 = M at *
  obtain ⟨F, hF⟩ : ∃ F, F = formC M := ⟨_, rfl⟩
  have CP := Lib.hid (fun (A : Option Addr) (c : Nat) (w' : World) px => cput_any M A c w' ML.out px (by have := MI.out; omega))
  rw [← hF] at CP hl1 hl2
  have IM := Lib.hid hIM
  obtain ⟨n, hn⟩ : ∃ n, n = F.length := ⟨_, rfl⟩
  rw [← hn] at CP hl1 hl2
  have HN := Lib.hid hn
  have q100 : decide ((n : Int) < 100) = false := decide_eq_false (by omega)
  obtain ⟨r8, hr8⟩ : ∃ r, r = bt % 8 := ⟨_, rfl⟩
  have e1 : IntKind.i64.wrap (bt : Int) = (bt : Int) := IntWalk.i64_in _ (by omega)
  have e2 : (bt : Int).tmod 8 = (r8 : Int) := by rw [Int.tmod_eq_emod_of_nonneg (by omega), hr8]; omega
  have hr0 : (0 : Int) ≤ (r8 : Int) := by omega
  have hr9 : (r8 : Int) < 8 := by omega
  clear hF hn hIM hr8
  have PK := Lib.hid (fun (w' : World) => pick_any at' n w' (by omega) (by omega))
  go_enter Tryz.func3, Tryz.ntmps3
  go_upto_region 1 with fail
  change Code.wp _ _ _ _ (w.alloc (.cells EL 27))
  rw [← hw1]
  clear hw1
  have r1 := RF.out w1 (Turn.refl _ _)
  go_wp2_with (go_at_call 5; refine stop ?_)
  unfold Stop
  refine (KS.out w1 (KX.out w1 (Turn.refl _ _)) (GX.out w1 (Turn.refl _ _))).mono ?_
  rintro r w3 ⟨gr, gk, rfl, hR, hb3⟩
  have T3 := Lib.hid (of_turn hb3)
  have RX := Lib.hid (fun (w' : World) (t : Turn (fun _ => False) w3 w') => show RingAt w' gr gk seed 64 from hR.below (turn_stp' t))
  clear hR hb3 r1
  have r1 := RF.out w3 T3.out
  go_wp2_with (go_at_call 6; refine stop ?_)
  unfold Stop
  refine (MD.out w3 (KX.out w3 T3.out) (BX.out w3 T3.out)).mono ?_
  rintro r w4 ⟨t, A, c, rfl, px⟩
  have T4 := Lib.hid (T3.out.trans t (fun _ _ h => h))
  have U4 := Lib.hid t
  have P4 := Lib.hid px
  obtain ⟨XC, hXC⟩ : ∃ X, X = (M.cells A c).toArray := ⟨_, rfl⟩
  rw [← hXC]
  have sX : XC.size = 137 := by rw [hXC, List.size_toArray, Crt.len _ _ _ ML.out]
  have X1 := Lib.hid (show (Tryz.prog.info? 35).map (·.size) = some XC.size by rw [sX]; exact cr_info)
  have X2 := Lib.hid (show ZC.size = XC.size by rw [sX, HSZ.out])
  have X3 := Lib.hid (show XC.all (·.oneCell') = true by rw [hXC]; exact Crt.one _ _ _)
  have HXC := Lib.hid hXC
  clear t r1 px hXC sX
  go_upto_region 5 with (refine wpList_store_row rfl _ _ _ rfl w4.heap.size XC rfl rfl 35 ZC (heap_alloc_new w4 _) X1.out X2.out X3.out ?_; rw [World.setRow_alloc_new])
  obtain ⟨w5, hw5⟩ : ∃ w5, w5 = w4.alloc (.cells XC 35) := ⟨_, rfl⟩
  have t5 : Turn (fun _ => False) w4 w5 := by rw [hw5]; exact (Turn.refl _ _).alloc _
  have g5 : CAt w5 w4.heap.size M A c := by unfold CAt; rw [← HXC.out, hw5]; exact heap_alloc_new _ _
  change Code.wp _ _ _ _ (w4.alloc (.cells XC 35))
  rw [← hw5]
  have T5 := Lib.hid (T4.out.trans t5 (fun _ _ h => h))
  have U5 := Lib.hid (U4.out.trans t5 (fun _ _ h => h))
  have PX := Lib.hid (fun (w' : World) (t : Turn (fun _ => False) w5 w') => show CPath w' M A c from (P4.out.turn t5).turn t)
  have RC := Lib.hid (fun (w' : World) (t : Turn (fun _ => False) w5 w') => show rowOf w' w4.heap.size 0 137 = some XC from by
    have h : CAt w' w4.heap.size M A c := t.heap g5 (fun h => h)
    rw [HXC.out]; exact (h.facts ML.out).all)
  clear hw5 t5 g5 P4
  generalize w4.heap.size = q4 at *
  have r1 := RC.out w5 (Turn.refl _ _)
  have C5 := Lib.hid (CP.out A c w5 (PX.out w5 (Turn.refl _ _)))
  rw [← HXC.out] at C5
  go_wp2_with (go_at_call 7; refine stop ?_)
  unfold Stop
  refine C5.out.mono ?_
  rintro r w6 ⟨u, rfl, o6, t6⟩
  obtain ⟨gb, cb, rfl, hgb, hcb⟩ := o6.form (by omega)
  have T6 := Lib.hid (T5.out.trans t6 (fun _ _ h => h))
  have U6 := Lib.hid (U5.out.trans t6 (fun _ _ h => h))
  have W6 := Lib.hid t6
  have O6 := Lib.hid o6
  have HGB := Lib.hid (o6.lt gb rfl).1
  clear t6 o6 r1 C5 hgb
  have r1 := RC.out w6 W6.out
  have I6 := Lib.hid (IS.out gr gk M A c w6 (RX.out w6 U6.out) (GX.out w6 T6.out) ML.out (PX.out w6 W6.out) (by have := MI.out; omega))
  rw [← HXC.out, show isC seed ((64 : Nat) : Int) M = true from IM.out] at I6
  go_wp2_with (go_at_call 8; refine stop ?_)
  unfold Stop
  refine I6.out.mono ?_
  rintro r w7 ⟨rfl, t7⟩
  have T7 := Lib.hid (T6.out.trans t7 (fun _ _ h => h))
  have U7 := Lib.hid (U6.out.trans t7 (fun _ _ h => h))
  have O7 := Lib.hid (turn_ownS t7 O6.out (fun _ _ h => h))
  clear t7 r1 I6 W6 O6
  go_upto_region 13 with (go_at_call 9; refine (PK.out _).mono ?_; rintro r w' ⟨⟨k, hk, rfl⟩, hw'⟩; rw [hw']; clear hw' w')
  obtain ⟨xk, hxk⟩ : ∃ x, F[k]? = some x := ⟨_, List.getElem?_eq_getElem (by rw [← HN.out]; exact hk)⟩
  have c0' : w7.cell? ⟨gb, k, none⟩ = some (.int .u8 (xk.toNat : Int)) := by
    rw [O7.out.cellAt k (by omega), List.getElem?_map, hxk]; rfl
  have z0' := O7.out.frozenAt k
  have hk0 : (0 : Int) ≤ (k : Int) := by omega
  have hk9 : (k : Int) < (n : Int) := by omega
  clear hxk
  go_still_tail 12, (by kernel_rfl)
  change wpList _ _ _ _ _ w7.drew
  go_upto_region 14 with fail
  obtain ⟨y, hy⟩ := xor_byte (xk.toNat : Int) (2 ^ r8 % 256)
  rw [hy]
  generalize IntKind.u8.wrap (2 ^ r8) = zz
  generalize bits .xor .u8 (xk.toNat : Int) zz = zz2
  obtain ⟨B1, hB1⟩ : ∃ B1, B1 = F.set k y := ⟨_, rfl⟩
  have hB1n : B1.length = n := by rw [hB1, List.length_set, HN.out]
  have st := O7.out.stored k (bv y)
  obtain ⟨w8, hw8⟩ : ∃ z, z = (w7.setCell ⟨gb, k, none⟩ (.int .u8 (y.toNat : Int))).drew := ⟨_, rfl⟩
  have t8 : Turn (fun i => i = gb) w7 w8 := by rw [hw8]; exact ((Turn.refl (fun i => i = gb) w7).setCell _ _ (fun _ => rfl)).drew
  have O8 := Lib.hid (show w8.ownsRow w5.heap.size 5 1 (.slice (some ⟨gb, 0, none⟩) n cb) n (B1.map bv) by
    rw [hw8, hB1, List.map_set]; exact st.1.drew)
  have T8 := Lib.hid (show Turn (fun _ => False) w1 w8 from T7.out.trans t8 (fun i hi h => by have := T5.out.size; have := HGB.out; have h' : i = gb := h; omega))
  have U8 := Lib.hid (show Turn (fun _ => False) w3 w8 from U7.out.trans t8 (fun i hi h => by have := U5.out.size; have := HGB.out; have h' : i = gb := h; omega))
  change Code.wp _ _ _ _ ((w7.setCell ⟨gb, k, none⟩ (.int .u8 (y.toNat : Int))).drew)
  rw [← hw8]
  have SX := Lib.hid (fun (w' : World) (t : Turn (fun _ => False) w8 w') => show Sl w' w'.heap.size (some ⟨gb, 0, none⟩) (B1.map bv) from by
    obtain ⟨A', c', e', s', -⟩ := own_sl (turn_ownS t O8.out (fun _ _ h => h))
    injection e' with e1 e2 e3
    rw [e1]; exact s')
  have hcap : n ≤ cb := by
    obtain ⟨A', c', e', -, -, h, -⟩ := own_sl O8.out
    injection e' with _ _ e3
    omega
  have RR := Lib.hid (fun (w' : World) hs => rcread_any (some ⟨gb, 0, none⟩) cb B1 w' hs (fun h => by cases h) (by omega) (by omega))
  have CR := Lib.hid (fun (w' : World) hs => cread_any (some ⟨gb, 0, none⟩) cb B1 w' hs (fun h => by cases h) (by omega) (by omega))
  obtain ⟨RL, RN⟩ := readCV_L B1
  have RL := Lib.hid RL
  have RN := Lib.hid RN
  unfold CPost at RR CR
  rw [hB1n] at RR CR
  obtain ⟨X, hX⟩ : ∃ X, X = readCV B1 := ⟨_, rfl⟩
  obtain ⟨E, hE⟩ : ∃ E, E = readCE B1 := ⟨_, rfl⟩
  rw [← hX, ← hE] at RR CR
  rw [← hX] at RL RN
  obtain ⟨V, hV⟩ : ∃ V, V = isC seed 64 X := ⟨_, rfl⟩
  have HV := Lib.hid hV
  clear hw8 t8 st hy c0' z0' hk0 hk9 e1 e2 hr0 hr9 hB1 hX hE hV O7
  have R8 := Lib.hid (RR.out w8 (SX.out w8 (Turn.refl _ _)))
  go_wp2_with (go_at_call 10; refine stop ?_)
  unfold Stop
  refine R8.out.mono ?_
  rintro r w9 ⟨A2, c2, rfl, px2, t⟩
  have T9 := Lib.hid (T8.out.trans t (fun _ _ h => h))
  have U9 := Lib.hid (U8.out.trans t (fun _ _ h => h))
  have Y9 := Lib.hid t
  have P9 := Lib.hid px2
  obtain ⟨XR, hXR⟩ : ∃ Z, Z = (X.cells A2 c2).toArray := ⟨_, rfl⟩
  rw [← hXR]
  have sX : XR.size = 137 := by rw [hXR, List.size_toArray, Crt.len _ _ _ RL.out]
  have Y1 := Lib.hid (show (Tryz.prog.info? 35).map (·.size) = some XR.size by rw [sX]; exact cr_info)
  have Y2 := Lib.hid (show ZC.size = XR.size by rw [sX, HSZ.out])
  have Y3 := Lib.hid (show XR.all (·.oneCell') = true by rw [hXR]; exact Crt.one _ _ _)
  have HXR := Lib.hid hXR
  clear t px2 hXR sX R8
  go_upto_region 15 with (refine wpList_store_row rfl _ _ _ rfl w9.heap.size XR rfl rfl 35 ZC (heap_alloc_new w9 _) Y1.out Y2.out Y3.out ?_; rw [World.setRow_alloc_new])
  obtain ⟨wa, hwa⟩ : ∃ wa, wa = w9.alloc (.cells XR 35) := ⟨_, rfl⟩
  have ta : Turn (fun _ => False) w9 wa := by rw [hwa]; exact (Turn.refl _ _).alloc _
  have ga : CAt wa w9.heap.size X A2 c2 := by unfold CAt; rw [← HXR.out, hwa]; exact heap_alloc_new _ _
  change Code.wp _ _ _ _ (w9.alloc (.cells XR 35))
  rw [← hwa]
  have TA := Lib.hid (T9.out.trans ta (fun _ _ h => h))
  have UA := Lib.hid (U9.out.trans ta (fun _ _ h => h))
  have YA := Lib.hid (Y9.out.trans ta (fun _ _ h => h))
  have PA := Lib.hid (P9.out.turn ta)
  have ra : rowOf wa w9.heap.size 0 137 = some XR := by rw [HXR.out]; exact (ga.facts RL.out).all
  clear hwa ta ga P9
  generalize w9.heap.size = p16 at *
  by_cases hE : E = 0
  · have qE1 : ((E : Int) == 0) = true := by simp [hE]
    have qE2 : ((E : Int) != 0) = false := by simp [hE]
    clear hE
    have IA := Lib.hid (RI.out X A2 c2 wa (KX.out wa TA.out) RL.out PA.out)
    rw [← HXR.out, ← HV.out] at IA
    go_wp2_with (go_at_call 11; refine stop ?_)
    unfold Stop
    refine IA.out.mono ?_
    rintro r wb ⟨rfl, t⟩
    have TB := Lib.hid (TA.out.trans t (fun _ _ h => h))
    have UB := Lib.hid (UA.out.trans t (fun _ _ h => h))
    have YB := Lib.hid (YA.out.trans t (fun _ _ h => h))
    clear t ra IA
    cases V with
    | true =>
      go_wp2_with (go_at_call 4; refine stop ?_)
      unfold Stop
      refine (AW.out wb (GX.out wb TB.out)).mono ?_
      rintro r wz ⟨rfl, t⟩
      have TZ := Lib.hid (TB.out.trans t (fun _ _ h => h))
      clear t
      go_wp2
      go_ret
      exact ⟨rfl, T1.out.trans TZ.out (fun _ _ h => h)⟩
    | false =>
      have Rx := Lib.hid (CR.out wb (SX.out wb (YB.out)))
      go_wp2_with (go_at_call 12; refine stop ?_)
      unfold Stop
      refine Rx.out.mono ?_
      rintro r wd ⟨A3, c3, rfl, px3, t⟩
      have TD := Lib.hid (TB.out.trans t (fun _ _ h => h))
      have UD := Lib.hid (UB.out.trans t (fun _ _ h => h))
      have PD := Lib.hid px3
      obtain ⟨XS, hXS⟩ : ∃ Z, Z = (X.cells A3 c3).toArray := ⟨_, rfl⟩
      rw [← hXS]
      have sX : XS.size = 137 := by rw [hXS, List.size_toArray, Crt.len _ _ _ RL.out]
      have Z1 := Lib.hid (show (Tryz.prog.info? 35).map (·.size) = some XS.size by rw [sX]; exact cr_info)
      have Z2 := Lib.hid (show ZC.size = XS.size by rw [sX, HSZ.out])
      have Z3 := Lib.hid (show XS.all (·.oneCell') = true by rw [hXS]; exact Crt.one _ _ _)
      have HXS := Lib.hid hXS
      clear t px3 hXS sX Rx
      go_upto_region 18 with (refine wpList_store_row rfl _ _ _ rfl wd.heap.size XS rfl rfl 35 ZC (heap_alloc_new wd _) Z1.out Z2.out Z3.out ?_; rw [World.setRow_alloc_new])
      obtain ⟨we, hwe⟩ : ∃ we, we = wd.alloc (.cells XS 35) := ⟨_, rfl⟩
      have te : Turn (fun _ => False) wd we := by rw [hwe]; exact (Turn.refl _ _).alloc _
      have ge : CAt we wd.heap.size X A3 c3 := by unfold CAt; rw [← HXS.out, hwe]; exact heap_alloc_new _ _
      change Code.wp _ _ _ _ (wd.alloc (.cells XS 35))
      rw [← hwe]
      have TE := Lib.hid (TD.out.trans te (fun _ _ h => h))
      have UE := Lib.hid (UD.out.trans te (fun _ _ h => h))
      have PE' := Lib.hid (PD.out.turn te)
      have GE := Lib.hid ge
      clear hwe te ge PD
      generalize wd.heap.size = p18 at *
      have re : rowOf we p18 0 137 = some XS := by rw [HXS.out]; exact (GE.out.facts RL.out).all
      have IE := Lib.hid (IS.out gr gk X A3 c3 we (RX.out we UE.out) (GX.out we TE.out) RL.out PE'.out (by have := RN.out; omega))
      rw [← HXS.out, show isC seed ((64 : Nat) : Int) X = false from HV.out.symm] at IE
      go_wp2_with (go_at_call 8; refine stop ?_)
      unfold Stop
      refine IE.out.mono ?_
      rintro r wf ⟨rfl, t⟩
      have TF := Lib.hid (TE.out.trans t (fun _ _ h => h))
      clear t re IE
      go_wp2_with (go_at_call 4; refine stop ?_)
      unfold Stop
      refine (AW.out wf (GX.out wf TF.out)).mono ?_
      rintro r wz ⟨rfl, t⟩
      have TZ := Lib.hid (TF.out.trans t (fun _ _ h => h))
      clear t
      go_wp2
      go_ret
      exact ⟨rfl, T1.out.trans TZ.out (fun _ _ h => h)⟩
  · have qE1 : ((E : Int) == 0) = false := by simp; omega
    have qE2 : ((E : Int) != 0) = true := by simp; omega
    clear hE ra
    have Rx := Lib.hid (CR.out wa (SX.out wa (YA.out)))
    go_wp2_with (go_at_call 12; refine stop ?_)
    unfold Stop
    refine Rx.out.mono ?_
    rintro r wd ⟨A3, c3, rfl, px3, t⟩
    have TD := Lib.hid (TA.out.trans t (fun _ _ h => h))
    have UD := Lib.hid (UA.out.trans t (fun _ _ h => h))
    have PD := Lib.hid px3
    obtain ⟨XS, hXS⟩ : ∃ Z, Z = (X.cells A3 c3).toArray := ⟨_, rfl⟩
    rw [← hXS]
    have sX : XS.size = 137 := by rw [hXS, List.size_toArray, Crt.len _ _ _ RL.out]
    have Z1 := Lib.hid (show (Tryz.prog.info? 35).map (·.size) = some XS.size by rw [sX]; exact cr_info)
    have Z2 := Lib.hid (show ZC.size = XS.size by rw [sX, HSZ.out])
    have Z3 := Lib.hid (show XS.all (·.oneCell') = true by rw [hXS]; exact Crt.one _ _ _)
    have HXS := Lib.hid hXS
    clear t px3 hXS sX Rx
    go_upto_region 18 with (refine wpList_store_row rfl _ _ _ rfl wd.heap.size XS rfl rfl 35 ZC (heap_alloc_new wd _) Z1.out Z2.out Z3.out ?_; rw [World.setRow_alloc_new])
    obtain ⟨we, hwe⟩ : ∃ we, we = wd.alloc (.cells XS 35) := ⟨_, rfl⟩
    have te : Turn (fun _ => False) wd we := by rw [hwe]; exact (Turn.refl _ _).alloc _
    have ge : CAt we wd.heap.size X A3 c3 := by unfold CAt; rw [← HXS.out, hwe]; exact heap_alloc_new _ _
    change Code.wp _ _ _ _ (wd.alloc (.cells XS 35))
    rw [← hwe]
    have TE := Lib.hid (TD.out.trans te (fun _ _ h => h))
    have UE := Lib.hid (UD.out.trans te (fun _ _ h => h))
    have PE' := Lib.hid (PD.out.turn te)
    have GE := Lib.hid ge
    clear hwe te ge PD
    generalize wd.heap.size = p18 at *
    go_wp2_with (go_at_call 4; refine stop ?_)
    unfold Stop
    refine (AW.out we (GX.out we TE.out)).mono ?_
    rintro r wz ⟨rfl, t⟩
    have TZ := Lib.hid (TE.out.trans t (fun _ _ h => h))
    clear t
    go_wp2
    go_ret
    exact ⟨rfl, T1.out.trans TZ.out (fun _ _ h => h)⟩
theorem certTurned_walk (A0 : Option Addr) (c0 : Nat) (seed : List B8) (A1 : Option Addr) (c1 : Nat) (cmd : List B8) (e : Ent) (at' : Int) (bt : Nat) (w : World) (hs0 : Sl w w.heap.size A0 (seed.map bv)) (hm0 : seed.length ≤ maxLen) (hA0 : A0 = none → c0 = 0) (hc0 : seed.length ≤ c0) (hs1 : Sl w w.heap.size A1 (cmd.map bv)) (hm1 : cmd.length ≤ maxLen) (hA1 : A1 = none → c1 = 0) (hc1 : cmd.length ≤ c1) (hd : e.d.length = 32) {p : Prop} (_ : p) (hbt : bt < 256) (hG : Glob w) :
    Calls Tryz.prog 3 #[.slice A0 seed.length c0, .slice A1 cmd.length c1, .agg e.cells.toArray, .int .i64 at', .int .u8 (bt : Int)] w fun r w' => r = .returned (.bool true) ∧ Below w.heap.size w w' :=
  to_below (certTurned_any A0 c0 seed A1 c1 cmd e at' bt w (Bts.of_sl hs0) hA0 hc0 hm0 (Bts.of_sl hs1) hA1 hc1 hm1 hd hbt hG)
end Go.Proofs.YthoaaieiiokcmaaGreatDoor
