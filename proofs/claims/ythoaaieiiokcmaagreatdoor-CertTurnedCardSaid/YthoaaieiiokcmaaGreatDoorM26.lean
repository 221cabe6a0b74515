/- Merged: The landed 'Make' of certificates. The document's example of certificates ('awake'). -/
import Derived.Test.YthoaaieiiokcmaaGreatDoorM24
import Derived.Test.YthoaaieiiokcmaaGreatDoorM25
import Derived.Test.YthoaaieiiokcmaaGreatDoorM19
namespace Go.Proofs.YthoaaieiiokcmaaGreatDoor
section
set_option linter.unusedVariables false
set_option linter.unusedSimpArgs false
open Go.RowKit
attribute [local go_sem ↓] loadAt_cr loadAt_hd loadAt_en loadAt_id
attribute [local go_sem] run_crLoad run_hdLoad run_enLoad run_idLoad rowOf_drew rowOf_drewN
/-- The certificate of an entry among leaves, under a header. -/
def mkX (seed : List B8) (k : Nat) (ls : List (List B8)) (e : Ent) (h : Hdr) : Crt := ⟨e, h, (signZ seed k h.s (formH h)).getD (zeros 32), pathD ls 1⟩
/-- Is there one? -/
def okMake (seed : List B8) (k : Nat) (ls : List (List B8)) (e : Ent) (h : Hdr) : Bool := decide (okH h) && (holdsB ls e && isC seed (k : Int) (mkX seed k ls e h))
def MkPost (seed : List B8) (k : Nat) (ls : List (List B8)) (e : Ent) (h : Hdr) (w : World) (r : Ending) (w' : World) : Prop :=
  Turn (fun _ => False) w w' ∧ (if okMake seed k ls e h = true then ∃ A c, r = .returned (.tuple #[.agg ((mkX seed k ls e h).cells A c).toArray, .bool true]) ∧ CPath w' (mkX seed k ls e h) A c else r = .returned (.tuple #[.agg (CZ.cells none 0).toArray, .bool false]))
theorem mk_no {seed : List B8} {k : Nat} {ls : List (List B8)} {e : Ent} {h : Hdr} {w w' : World} {ZC : Array Value} (hZ : ZC = (CZ.cells none 0).toArray) (hf : okMake seed k ls e h = false) (t : Turn (fun _ => False) w w') : MkPost seed k ls e h w (.returned (.tuple #[.agg ZC, .bool false])) w' := by
  refine ⟨t, ?_⟩
  rw [hf, if_neg (by decide), hZ]
theorem signZ_len (seed : List B8) (k : Nat) (z : Int) (b : List B8) : ((signZ seed k z b).getD (zeros 32)).length = 32 := by
  unfold signZ
  split
  · exact signD_len _ _ _
  · rfl
set_option maxRecDepth 100000 in
set_option maxHeartbeats 16000000 in
theorem cmake_any (gr gk k : Nat) (seed : List B8) (L : Option Addr) (c : Nat) (ls : List (List B8)) (e : Ent) (h : Hdr) (w : World) (hR : RingAt w gr gk seed k) (hk : k ≤ 64) (hG : Glob w) (hL : LstN w L ls) (hc : ls.length ≤ c) (hA : L = none → c = 0) (hm : ls.length ≤ 1000) (hs : ∀ xs ∈ ls, xs.length ≤ 1000000) (hd : e.d.length = 32) (hh : h.L) :
    Calls Tryz.prog 15 #[ringV gr, .slice L ls.length c, .agg e.cells.toArray, .agg h.cells.toArray] w (MkPost seed k ls e h w) := by
  have hm' : ls.length ≤ 1000000 := by omega
  obtain ⟨EL, hEL⟩ : ∃ L, L = e.cells := ⟨_, rfl⟩
  obtain ⟨HL, hHL⟩ : ∃ L, L = h.cells := ⟨_, rfl⟩
  obtain ⟨ZC, hZC⟩ : ∃ L, L = (CZ.cells none 0).toArray := ⟨_, rfl⟩
  have hcz := cr_zero
  rw [← hZC] at hcz
  have nE : EL.length = 37 := by rw [hEL]; exact Ent.len _ hd
  have nH : HL.length = 67 := by rw [hHL]; exact Hdr.len _ hh
  have sZ : ZC.size = 137 := by rw [hZC, List.size_toArray, Crt.len _ _ _ CZ_L]
  have K1 := Lib.hid (show (Tryz.prog.info? 35).map (·.size) = some ZC.size by rw [sZ]; exact cr_info)
  have K3 := Lib.hid (show ZC.all (·.oneCell') = true by rw [hZC]; exact Crt.one _ _ _)
  obtain ⟨w1, hw1⟩ : ∃ w1, w1 = ((w.alloc (.cells EL.toArray 27)).alloc (.cells HL.toArray 33)).alloc (.cells ZC 35) := ⟨_, rfl⟩
  have t1 : Turn (fun _ => False) w w1 := by rw [hw1]; exact (((Turn.refl _ _).alloc _).alloc _).alloc _
  have g0 : w1.heap[w.heap.size]? = some (.cells EL.toArray 27 (0, 0)) := by rw [hw1, Below.heap_alloc _ _ _ (by simp; omega)]; exact heap_alloc2_old w _ _
  have g1 : w1.heap[w.heap.size + 1]? = some (.cells HL.toArray 33 (0, 0)) := by rw [hw1, Below.heap_alloc _ _ _ (by simp)]; exact heap_alloc2_new w _ _
  have g2 : w1.heap[w.heap.size + 2]? = some (.cells ZC 35 (0, 0)) := by
    have := heap_alloc_new ((w.alloc (.cells EL.toArray 27)).alloc (.cells HL.toArray 33)) (.cells ZC 35)
    rw [← hw1] at this
    simpa using this
  have s1 : w1.heap.size = w.heap.size + 3 := by rw [hw1]; simp
  have RF := Lib.hid (fun (w' : World) (t : Turn (fun _ => False) w1 w') => show rowOf w' w.heap.size 0 37 = some EL.toArray ∧ w'.rangeAt w.heap.size 0 EL ∧ rowOf w' (w.heap.size + 1) 0 67 = some HL.toArray ∧ w'.rangeAt (w.heap.size + 1) 0 HL ∧ w'.cell? ⟨w.heap.size + 1, 0, none⟩ = some (.int .i64 h.s) from by
    have ge := t.heap g0 (fun h => h)
    have gh := t.heap g1 (fun h => h)
    have gH : HAt w' (w.heap.size + 1) h := by unfold HAt; rw [← hHL]; exact gh
    refine ⟨?_, fun j v hj => ?_, ?_, fun j v hj => ?_, gH.c.1⟩
    · have := rowOf_block ge 0 37 (by omega)
      rwa [List.drop_zero, List.take_of_length_le (by omega)] at this
    · rw [Nat.zero_add, cell_of_row _ _ _ _ _ _ ge, List.getElem?_toArray]; exact hj
    · have := rowOf_block gh 0 67 (by omega)
      rwa [List.drop_zero, List.take_of_length_le (by omega)] at this
    · rw [Nat.zero_add, cell_of_row _ _ _ _ _ _ gh, List.getElem?_toArray]; exact hj)
  have TH := Lib.hid (fun w => hput_any h w hh)
  have HX := Lib.hid (fun (L : Option Addr) (w' : World) hL => holds_any L c ls e w' hL hc hm' hd)
  have RX := Lib.hid (show ∀ (w' : World), Turn (fun _ => False) w1 w' → RingAt w' gr gk seed k from fun w' t => (hR.below (turn_stp' t1)).below (turn_stp' t))
  have GX := Lib.hid (show ∀ (w' : World), Turn (fun _ => False) w1 w' → Glob w' from fun w' t => glob_turn (glob_turn hG t1) t)
  have LX := Lib.hid (show ∀ (w' : World), Turn (fun _ => False) w1 w' → LstN w' L ls from fun w' t => lstn_turn (lstn_turn hL t1) t)
  have PT := Lib.hid (fun (w' : World) hL hG => path_any ls.length ls (Nat.le_refl _) hm' hs L c 1 w' hL hc hG)
  rw [show pathZ ls 1 = pathD ls 1 from pathZ_nat ls 1] at PT
  have PI := Lib.hid (show ∀ d ∈ pathD ls 1, d.length = 32 by have := pathZ_ids ls; rwa [show pathZ ls 1 = pathD ls 1 from pathZ_nat ls 1] at this)
  have PZ := Lib.hid (pathD_size ls.length ls 1 (Nat.le_refl _))
  have HM := Lib.hid (show mkX seed k ls e h = ⟨e, h, (signZ seed k h.s (formH h)).getD (zeros 32), pathD ls 1⟩ from rfl)
  have OM := Lib.hid (show okMake seed k ls e h = (decide (okH h) && (holdsB ls e && isC seed (k : Int) (mkX seed k ls e h))) from rfl)
  have CS := Lib.hid (fun (A : Option Addr) (c : Nat) (w' : World) hR hG hx px mx => cis_any gr gk k seed (mkX seed k ls e h) A c w' hR hk hG hx px mx)
  obtain ⟨M, hM⟩ : ∃ M, M = mkX seed k ls e h := ⟨_, rfl⟩
  rw [← hM] at HM OM CS
  have HMM := Lib.hid hM
  obtain ⟨P, hP⟩ : ∃ P, P = pathD ls 1 := ⟨_, rfl⟩
  rw [← hP] at PT PI PZ HM
  obtain ⟨V, hV⟩ : ∃ V, V = isC seed (k : Int) M := ⟨_, rfl⟩
  obtain ⟨G, hGG⟩ : ∃ G, G = pH h := ⟨_, rfl⟩
  have FH := Lib.hid (pH_le h hh)
  rw [← hHL, ← hGG] at TH
  rw [← hGG] at FH
  have HGG := Lib.hid hGG
  rw [← hEL] at HX
  rw [← hEL, ← hHL]
  rw [← hV] at OM CS
  obtain ⟨HB, hHB⟩ : ∃ b, b = holdsB ls e := ⟨_, rfl⟩
  rw [← hHB] at HX OM
  obtain ⟨n, hn⟩ : ∃ n, n = ls.length := ⟨_, rfl⟩
  rw [← hn] at HX PT PZ hm
  rw [← hn]
  have T1 := Lib.hid t1
  have Z1 := Lib.hid g2
  have S1 := Lib.hid s1
  have HSZ := Lib.hid sZ
  have HZC := Lib.hid hZC
  have HEL := Lib.hid (And.intro hEL (And.intro hHL (And.intro nE nH)))
  have HDH := Lib.hid (And.intro hd hh)
  clear hEL hHL hZC nE nH sZ t1 g0 g1 g2 s1 hR hG hL hA hs hd hh hM hP hV hGG hHB hn hm' hc
  unfold ringV
  by_cases oh : okH h
  rotate_left 1
  · rw [decide_eq_false oh] at TH OM
    have hno := OM.out
    rw [Bool.false_and] at hno
    have HNO := Lib.hid hno
    clear oh hno
    go_enter Tryz.func15, Tryz.ntmps15
    go_upto_region 1 with fail
    change Code.wp _ _ _ _ (((w.alloc (.cells EL.toArray 27)).alloc (.cells HL.toArray 33)).alloc (.cells ZC 35))
    rw [← hw1]
    clear hw1
    obtain ⟨r1, r2, r3, r4, r5⟩ := RF.out w1 (Turn.refl _ _)
    go_wp2_with (go_at_call 23; refine stop ?_)
    unfold Stop
    refine (TH.out w1).mono ?_
    rintro r w2 ⟨u2, rfl, o2, t2⟩
    obtain ⟨A2, c2, rfl, b2, hc2, ha2⟩ := own_bt o2
    have T2 := Lib.hid t2
    have B2 := Lib.hid b2
    have C2 := Lib.hid (And.intro hc2 ha2)
    clear o2 t2 b2 hc2 ha2 r1 r2 r3 r4 r5
    obtain ⟨r1, r2, r3, r4, r5⟩ := RF.out w2 T2.out
    have Z9 := Lib.hid (T2.out.heap Z1.out (fun h => h))
    go_wp2_with (refine wpList_store_row rfl _ _ _ rfl (w.heap.size + 2) ZC rfl rfl 35 ZC Z9.out K1.out rfl K3.out ?_)
    have h3 := setRow_heap w2 (w.heap.size + 2) ZC ZC 35 (0, 0) Z9.out
    have t9 : Turn (fun i => i = w.heap.size + 2) w2 (w2.setRow (w.heap.size + 2) ZC) := (Turn.refl _ _).setRow _ _ (fun _ => rfl)
    refine bodyPost_ret (v := .tuple #[.agg ZC, .bool false]) ?_ rfl (mk_no HZC.out HNO.out ((T1.out.trans T2.out (fun _ _ h => h)).trans t9 (fun i hi h => by omega)))
    exact results_cr Tryz.results15 _ _ (w.heap.size + 2) _ _ rfl rfl h3 HSZ.out
  have HPH := Lib.hid (show pH h = formH h from if_pos oh)
  have HS0 := Lib.hid (show 0 ≤ h.s by unfold okH at oh; omega)
  rw [decide_eq_true oh] at TH OM
  rw [Bool.true_and] at OM
  clear oh
  cases HB with
  | false =>
    have hno := OM.out
    rw [Bool.false_and] at hno
    have HNO := Lib.hid hno
    clear hno
    go_enter Tryz.func15, Tryz.ntmps15
    go_upto_region 1 with fail
    change Code.wp _ _ _ _ (((w.alloc (.cells EL.toArray 27)).alloc (.cells HL.toArray 33)).alloc (.cells ZC 35))
    rw [← hw1]
    clear hw1
    obtain ⟨r1, r2, r3, r4, r5⟩ := RF.out w1 (Turn.refl _ _)
    go_wp2_with (go_at_call 23; refine stop ?_)
    unfold Stop
    refine (TH.out w1).mono ?_
    rintro r w2 ⟨u2, rfl, o2, t2⟩
    obtain ⟨A2, c2, rfl, b2, hc2, ha2⟩ := own_bt o2
    have T2 := Lib.hid t2
    have B2 := Lib.hid b2
    have C2 := Lib.hid (And.intro hc2 ha2)
    clear o2 t2 b2 hc2 ha2 r1 r2 r3 r4 r5
    obtain ⟨r1, r2, r3, r4, r5⟩ := RF.out w2 T2.out
    have HC := Lib.hid (HX.out L w2 (LX.out w2 T2.out))
    go_wp2_with (go_at_call 46; refine stop ?_)
    unfold Stop
    refine HC.out.mono ?_
    rintro r w3 ⟨rfl, t3⟩
    have T3 := Lib.hid (T2.out.trans t3 (fun _ _ h => h))
    have B3 := Lib.hid (bts_turn B2.out t3)
    clear t3 HC r1 r2 r3 r4 r5
    have Z9 := Lib.hid (T3.out.heap Z1.out (fun h => h))
    go_wp2_with (refine wpList_store_row rfl _ _ _ rfl (w.heap.size + 2) ZC rfl rfl 35 ZC Z9.out K1.out rfl K3.out ?_)
    have h3 := setRow_heap w3 (w.heap.size + 2) ZC ZC 35 (0, 0) Z9.out
    have t9 : Turn (fun i => i = w.heap.size + 2) w3 (w3.setRow (w.heap.size + 2) ZC) := (Turn.refl _ _).setRow _ _ (fun _ => rfl)
    refine bodyPost_ret (v := .tuple #[.agg ZC, .bool false]) ?_ rfl (mk_no HZC.out HNO.out ((T1.out.trans T3.out (fun _ _ h => h)).trans t9 (fun i hi h => by omega)))
    exact results_cr Tryz.results15 _ _ (w.heap.size + 2) _ _ rfl rfl h3 HSZ.out
  | true =>
    rw [Bool.true_and] at OM
    have SL := Lib.hid (signZ_len seed k h.s (formH h))
    obtain ⟨SB, hSB⟩ : ∃ b, b = (signZ seed k h.s (formH h)).isSome := ⟨_, rfl⟩
    have SG := Lib.hid (fun (A' : Option Addr) (c' : Nat) (w' : World) hR hB hc hG => sign_u gr gk k h.s seed G A' c' w' hR HS0.out hk hB hc hG (by have := FH.out; omega))
    rw [show signZ seed k h.s G = signZ seed k h.s (formH h) by rw [HGG.out, HPH.out]] at SG
    unfold signV at SG
    rw [← hSB] at SG
    obtain ⟨T, hT⟩ : ∃ T, T = (signZ seed k h.s (formH h)).getD (zeros 32) := ⟨_, rfl⟩
    rw [← hT] at SG SL HM
    obtain ⟨TL, hTL⟩ : ∃ L, L = T.map bv := ⟨_, rfl⟩
    rw [← hTL] at SG
    have nT : TL.length = 32 := by rw [hTL, List.length_map]; exact SL.out
    have D1 := Lib.hid (show (Tryz.prog.info? 24).map (·.size) = some TL.toArray.size by rw [List.size_toArray, nT]; exact id_info)
    have D2 := Lib.hid (show ZIdT.size = TL.toArray.size from (show ZIdT.size = 32 from rfl).trans (by rw [List.size_toArray, nT]))
    have D3 := Lib.hid (show TL.toArray.all (·.oneCell') = true by rw [hTL]; exact bvs_one _)
    have ML := Lib.hid (show M.L by rw [HM.out]; exact ⟨HDH.out.1, HDH.out.2, SL.out, PI.out⟩)
    have MI := Lib.hid (show M.ids = P by rw [HM.out])
    obtain ⟨pl, hpl⟩ : ∃ n, n = P.length := ⟨_, rfl⟩
    rw [← hpl] at PT PZ
    have HPL := Lib.hid hpl
    have MCE := Lib.hid (show ∀ A c, (M.cells A c).toArray = (EL ++ ([Value.slice A pl c] ++ (HL ++ TL))).toArray from fun A c => by rw [HM.out, HEL.out.1, HEL.out.2.1, hTL, hpl]; rfl)
    have BC := Lib.hid (fun (A : Option Addr) (c : Nat) => built_cr EL HL TL A pl c HEL.out.2.2.1 HEL.out.2.2.2 nT)
    have ZEL := Lib.hid (show (Tryz.prog.info? 27).map (·.size) = some EL.length by rw [HEL.out.2.2.1]; exact en_info)
    have ZHL := Lib.hid (show (Tryz.prog.info? 33).map (·.size) = some HL.length by rw [HEL.out.2.2.2]; exact hd_info)
    have ZTL := Lib.hid (show (Tryz.prog.info? 24).map (·.size) = some TL.length by rw [nT]; exact id_info)
    clear hSB hT hTL nT hpl
    go_enter Tryz.func15, Tryz.ntmps15
    go_upto_region 1 with fail
    change Code.wp _ _ _ _ (((w.alloc (.cells EL.toArray 27)).alloc (.cells HL.toArray 33)).alloc (.cells ZC 35))
    rw [← hw1]
    clear hw1
    obtain ⟨r1, r2, r3, r4, r5⟩ := RF.out w1 (Turn.refl _ _)
    go_wp2_with (go_at_call 23; refine stop ?_)
    unfold Stop
    refine (TH.out w1).mono ?_
    rintro r w2 ⟨u2, rfl, o2, t2⟩
    obtain ⟨A2, c2, rfl, b2, hc2, ha2⟩ := own_bt o2
    have T2 := Lib.hid t2
    have B2 := Lib.hid b2
    have C2 := Lib.hid (And.intro hc2 ha2)
    clear o2 t2 b2 hc2 ha2 r1 r2 r3 r4 r5
    obtain ⟨r1, r2, r3, r4, r5⟩ := RF.out w2 T2.out
    have HC := Lib.hid (HX.out L w2 (LX.out w2 T2.out))
    go_wp2_with (go_at_call 46; refine stop ?_)
    unfold Stop
    refine HC.out.mono ?_
    rintro r w3 ⟨rfl, t3⟩
    have T3 := Lib.hid (T2.out.trans t3 (fun _ _ h => h))
    have B3 := Lib.hid (bts_turn B2.out t3)
    clear t3 HC r1 r2 r3 r4 r5
    obtain ⟨r1, r2, r3, r4, r5⟩ := RF.out w3 T3.out
    have SC := Lib.hid (SG.out A2 c2 w3 (RX.out w3 T3.out) B3.out C2.out.1 (GX.out w3 T3.out))
    go_upto_region 5 with (first
      | (go_at_call 47; refine SC.out.mono ?_; rintro r w4 ⟨rfl, h4⟩; have T34 := Lib.hid (of_turn h4); clear h4)
      | (refine wpList_store_row rfl _ _ _ rfl w4.heap.size TL.toArray rfl rfl 24 _ (heap_alloc_new w4 _) D1.out D2.out D3.out ?_; rw [World.setRow_alloc_new]))
    obtain ⟨w5, hw5⟩ : ∃ w5, w5 = w4.alloc (.cells TL.toArray 24) := ⟨_, rfl⟩
    have t5 : Turn (fun _ => False) w1 w5 := by rw [hw5]; exact (T3.out.trans T34.out (fun _ _ h => h)).alloc _
    have g5 : w5.heap[w4.heap.size]? = some (.cells TL.toArray 24 (0, 0)) := by rw [hw5]; exact heap_alloc_new _ _
    change Code.wp _ _ _ _ (w4.alloc (.cells TL.toArray 24))
    rw [← hw5]
    have T5 := Lib.hid t5
    have RT := Lib.hid (show ∀ w' : World, Turn (fun _ => False) w5 w' → w'.rangeAt w4.heap.size 0 TL from fun w' t j v hj => by
      rw [Nat.zero_add, cell_of_row _ _ _ _ _ _ (t.heap g5 (fun h => h)), List.getElem?_toArray]; exact hj)
    have HB5 := Lib.hid (show w.heap.size + 3 ≤ w5.heap.size by have := S1.out; have := T5.out.size; omega)
    clear hw5 t5 g5 SC r1 r2 r3 r4 r5
    generalize w4.heap.size = p12 at *
    have Z5 := Lib.hid (T5.out.heap Z1.out (fun h => h))
    have HWS := Lib.hid (fun (w' : World) (h : Stp w5.drew w') => show Turn (fun _ => False) w5 w' from Turn.of_below (stp_start h (Below.refl _ _)))
    refine wp_region_rel_tail 7 53 (by kernel_rfl) (by kernel_rfl) Stp [.one ?_, .one ?_, .rel (fun v w => w.ownsRow w5.heap.size 24 32 v pl (idsV P)), .one ?_, .one ?_, .rel (fun v w => ∃ A c, v = .agg (M.cells A c).toArray ∧ w.ownsRow w5.heap.size 24 32 (.slice A pl c) pl (idsV P)), .rel (PtrZ w5.heap.size ZC 35)] (by kernel_rfl) rfl (by kernel_rfl) Stp.refl Stp.trans ⟨fun v w w' h1 h2 => own_below h1 h2, fun v w w' h1 h2 => h1.elim fun A h => h.elim fun c h => ⟨A, c, h.1, own_below h.2 h2⟩, fun v w w' h1 h2 => PtrZ.stable v w w' h1 h2, trivial⟩ ?main
    case main =>
    simp only [List.take_succ_cons, List.take_zero, List.drop_succ_cons, List.drop_zero]
    refine wpR_one (A' := ?_) Stp.refl (by rfl) _ rfl 53 (by rfl) (by rfl) ?_ ?_ ?_
    rotate_left 1
    · simp only [Act.put, List.setIfInBounds_toArray, List.set_cons_zero, List.set_cons_succ]; rfl
    · intro w1 hs hf K hK
      refine cls_load 27 (.tmp 6) rfl (w.heap.size) (0) rfl (EL) _ (fun w4 h2 => (RF.out w4 (T5.out.trans (HWS.out w4 (Stp.trans _ _ _ hs h2)) (fun _ _ h => h))).2.1) Tryz.underlying27 rfl ZEL.out ?_
      refine hK _ ?_
      simp only [Act.put, List.setIfInBounds_toArray, List.set_cons_zero, List.set_cons_succ]
      rfl
    iterate 1
      refine wpR_one (A' := ?_) Stp.refl (by rfl) _ rfl 53 (by rfl) (by rfl) ?_ ?_ ?_
      rotate_left 1
      · simp only [Act.put, List.setIfInBounds_toArray, List.set_cons_zero, List.set_cons_succ]; rfl
      · intro w1 hs hf K hK
        go_big_quiet_op
        first
          | go_big_quiet_on
          | (refine ⟨_, fun _ _ => rfl, ?_⟩; go_big_quiet_on)
        rfl
    refine wpR_rel (A' := ?_) (by rfl) ?_ ?_ ?_
    · intro w1' hs hf
      have hz : w5.heap.size ≤ w1'.heap.size := Below.size (w := w5.drew) hs
      have tz := T5.out.trans (HWS.out w1' hs) (fun _ _ h => h)
      refine does_call (w' := w1') (f := 48) (args := #[.slice L n c, .int .i64 1]) (by kernel_rfl) ((PT.out w1' (LX.out w1' tz).lst (GX.out w1' tz)).mono ?_)
      rintro e w3 ⟨v, rfl, ho, h3⟩
      exact ⟨v, rfl, ⟨ho.1, by
        rcases ho.2 with h | ⟨g, cap, cur, e, hb, r⟩
        · exact .inl h
        · exact .inr ⟨g, cap, cur, e, Nat.le_trans hz hb, r⟩⟩, h3⟩
    rotate_left 1
    · intro x
      simp only [Act.put, List.setIfInBounds_toArray, List.set_cons_zero, List.set_cons_succ]; rfl
    intro x43
    refine wpR_one (A' := ?_) Stp.refl (by rfl) _ rfl 53 (by rfl) (by rfl) ?_ ?_ ?_
    rotate_left 1
    · simp only [Act.put, List.setIfInBounds_toArray, List.set_cons_zero, List.set_cons_succ]; rfl
    · intro w1 hs hf K hK
      refine cls_load 33 (.tmp 7) rfl (w.heap.size + 1) (0) rfl (HL) _ (fun w4 h2 => (RF.out w4 (T5.out.trans (HWS.out w4 (Stp.trans _ _ _ hs h2)) (fun _ _ h => h))).2.2.2.1) Tryz.underlying33 rfl ZHL.out ?_
      refine hK _ ?_
      simp only [Act.put, List.setIfInBounds_toArray, List.set_cons_zero, List.set_cons_succ]
      rfl
    refine wpR_one (A' := ?_) Stp.refl (by rfl) _ rfl 53 (by rfl) (by rfl) ?_ ?_ ?_
    rotate_left 1
    · simp only [Act.put, List.setIfInBounds_toArray, List.set_cons_zero, List.set_cons_succ]; rfl
    · intro w1 hs hf K hK
      refine cls_load 24 (.tmp 12) rfl (p12) (0) rfl (TL) _ (fun w4 h2 => RT.out w4 (HWS.out w4 (Stp.trans _ _ _ hs h2))) Tryz.underlying24 rfl ZTL.out ?_
      refine hK _ ?_
      simp only [Act.put, List.setIfInBounds_toArray, List.set_cons_zero, List.set_cons_succ]
      rfl
    refine wpR_rel (A' := ?_) (by rfl) ?_ ?_ ?_
    · intro w1' hs hf
      have ho : w1'.ownsRow w5.heap.size 24 32 x43 pl (idsV P) := AllF_at hf 0 rfl (by kernel_rfl)
      obtain ⟨A, cc, e43, -, -⟩ := own_slN ho
      subst e43
      refine does_build 35 #[(0, .tmp 41), (1, .tmp 43), (2, .tmp 44), (3, .tmp 45)] rfl (M.cells A cc).toArray ((BC.out A cc).trans (by rw [MCE.out])) ?_
      exact ⟨⟨A, cc, rfl, ho⟩, Stp.refl _⟩
    rotate_left 1
    · intro x
      simp only [Act.put, List.setIfInBounds_toArray, List.set_cons_zero, List.set_cons_succ]; rfl
    intro x46
    refine wpR_rel (A' := ?_) (by rfl) ?_ ?_ ?_
    · intro w1' hs hf
      exact does_ptr ZC 35 _ rfl (Below.size (w := w5.drew) hs) (fun w => by rw [HZC.out]; kernel_rfl)
    rotate_left 1
    · intro x
      simp only [Act.put, List.setIfInBounds_toArray, List.set_cons_zero, List.set_cons_succ]; rfl
    intro x14
    intro wx hs hf
    obtain ⟨⟨p14, hp14, rfl, hg14⟩, ⟨A, cc, e46, ho⟩, -, -⟩ := hf
    subst e46
    have TX := Lib.hid (HWS.out wx hs)
    have HO := Lib.hid ho
    have HG14 := Lib.hid hg14
    have HP14 := Lib.hid hp14
    clear hs ho hg14 hp14
    obtain ⟨XC, hXC⟩ : ∃ X, X = (M.cells A cc).toArray := ⟨_, rfl⟩
    have sX : XC.size = 137 := by rw [hXC, List.size_toArray, Crt.len _ _ _ ML.out]
    have X1 := Lib.hid (show (Tryz.prog.info? 35).map (·.size) = some XC.size by rw [sX]; exact cr_info)
    have X2 := Lib.hid (show ZC.size = XC.size by rw [sX, HSZ.out])
    have X3 := Lib.hid (show XC.all (·.oneCell') = true by rw [hXC]; exact Crt.one _ _ _)
    have HXC := Lib.hid hXC
    have HSX := Lib.hid sX
    rw [← hXC]
    clear hXC sX
    go_wp2_with (refine wpList_store_row rfl _ _ _ rfl p14 XC rfl rfl 35 ZC HG14.out X1.out X2.out X3.out ?_; refine stop ?_)
    unfold Stop
    obtain ⟨w6, hw6⟩ : ∃ w6, w6 = wx.setRow p14 XC := ⟨_, rfl⟩
    have ty : Turn (fun i => i = p14) wx w6 := by rw [hw6]; exact (Turn.refl _ _).setRow _ _ (fun _ => rfl)
    have T56 := Lib.hid (show Turn (fun _ => False) w5 w6 from TX.out.trans ty (fun i hi h => by have := HP14.out; omega))
    have T6 := Lib.hid (T5.out.trans T56.out (fun _ _ h => h))
    have hg6 : w6.heap[p14]? = some (.cells XC 35 (0, 0)) := by rw [hw6]; exact setRow_heap _ _ _ _ _ _ HG14.out
    have hne : ∀ g, (Value.slice A pl cc).ownBlock = some g → ¬ g = p14 := fun g hg h => by
      rcases HO.out.2 with ⟨e0, -⟩ | ⟨g', cap, cur, e0, hB, hg', -⟩
      · rw [e0] at hg; cases hg
      · rw [e0] at hg
        have hgg : g' = g := by simpa [Value.ownBlock] using hg
        rw [hgg, h] at hg'
        have := hg'.symm.trans HG14.out
        injection this with this
        injection this with _ ht _
        exact absurd ht (by decide)
    have HO6 := Lib.hid (show w6.ownsRow w5.heap.size 24 32 (.slice A pl cc) pl (idsV P) from turn_ownS ty HO.out hne)
    rw [← hw6]
    clear hw6 ty HO HG14 TX hne
    have HG6 := Lib.hid hg6
    have hrow : rowOf w6 p14 0 137 = some XC := by
      have h := hg6
      rw [HXC.out] at h
      have := rowOf_block h 0 137 (by rw [Crt.len _ _ _ ML.out]; exact Nat.le_refl _)
      rw [List.drop_zero, List.take_of_length_le (by rw [Crt.len _ _ _ ML.out]; exact Nat.le_refl _)] at this
      rw [HXC.out]; exact this
    have PX6 : CPath w6 M A cc := by
      obtain ⟨A', c', e', hc', hn'⟩ := own_slN HO6.out
      injection e' with e1 e2 e3
      subst e1 e3
      unfold CPath
      rw [MI.out]
      exact ⟨IdsAt.of_own HO6.out PI.out, by rw [← HPL.out]; exact hc', hn'⟩
    have CC := Lib.hid (CS.out A cc w6 (RX.out w6 T6.out) (GX.out w6 T6.out) ML.out PX6 (by rw [MI.out, ← HPL.out]; have := PZ.out; omega))
    unfold ringV at CC
    rw [← HXC.out] at CC
    clear hg6 PX6
    go_wp2_with (go_at_call 8; refine stop ?_)
    unfold Stop
    refine CC.out.mono ?_
    rintro r w7 ⟨rfl, t7⟩
    have T7 := Lib.hid (T6.out.trans t7 (fun _ _ h => h))
    have Z7 := Lib.hid (T7.out.heap Z1.out (fun h => h))
    have hrow7 : rowOf w7 p14 0 137 = some XC := rowOf_turn t7 hrow (fun h => h)
    have HO7 := Lib.hid (turn_ownS t7 HO6.out (fun _ _ h => h))
    have HR7 := Lib.hid hrow7
    clear t7 CC hrow hrow7 HO6
    cases V with
    | false =>
      have HNO := Lib.hid OM.out
      go_wp2_with (refine wpList_store_row rfl _ _ _ rfl (w.heap.size + 2) ZC rfl rfl 35 ZC Z7.out K1.out rfl K3.out ?_)
      have h3 := setRow_heap w7 (w.heap.size + 2) ZC ZC 35 (0, 0) Z7.out
      have t9 : Turn (fun i => i = w.heap.size + 2) w7 (w7.setRow (w.heap.size + 2) ZC) := (Turn.refl _ _).setRow _ _ (fun _ => rfl)
      refine bodyPost_ret (v := .tuple #[.agg ZC, .bool false]) ?_ rfl (mk_no HZC.out HNO.out ((T1.out.trans T7.out (fun _ _ h => h)).trans t9 (fun i hi h => by omega)))
      exact results_cr Tryz.results15 _ _ (w.heap.size + 2) _ _ rfl rfl h3 HSZ.out
    | true =>
      have hr7 := HR7.out
      go_wp2_with (refine wpList_store_row rfl _ _ _ rfl (w.heap.size + 2) XC rfl rfl 35 ZC Z7.out X1.out X2.out X3.out ?_)
      have h3 := setRow_heap w7 (w.heap.size + 2) ZC XC 35 (0, 0) Z7.out
      have t9 : Turn (fun i => i = w.heap.size + 2) w7 (w7.setRow (w.heap.size + 2) XC) := (Turn.refl _ _).setRow _ _ (fun _ => rfl)
      have HOZ := Lib.hid (turn_ownS t9 HO7.out (fun g hg h => by have := (HO7.out.lt g hg).1; have := HB5.out; omega))
      refine bodyPost_ret (v := .tuple #[.agg XC, .bool true]) ?_ rfl ⟨(T1.out.trans T7.out (fun _ _ h => h)).trans t9 (fun i hi h => by omega), ?_⟩
      · exact results_cr Tryz.results15 _ _ (w.heap.size + 2) _ _ rfl rfl h3 HSX.out
      · rw [OM.out, if_pos rfl, ← HMM.out]
        obtain ⟨A', c', e', hc', hn'⟩ := own_slN HOZ.out
        injection e' with e1 e2 e3
        subst e1 e3
        refine ⟨A, cc, by rw [HXC.out], ?_⟩
        unfold CPath
        rw [MI.out]
        exact ⟨IdsAt.of_own HOZ.out PI.out, by rw [← HPL.out]; exact hc', hn'⟩
end
section
set_option linter.unusedVariables false
set_option linter.unusedSimpArgs false
open Go.RowKit
attribute [local go_sem ↓] loadAt_cr loadAt_hd loadAt_en loadAt_id
attribute [local go_sem] run_crLoad run_hdLoad run_enLoad run_idLoad rowOf_drew rowOf_drewN
theorem LSof_ok {b : List B8} {e : Ent} {n : Nat} (h : okL e n) : LSof b e n = [b, formE e, numB n] := if_pos h
/-- The certificate of a block's entry is right. -/
theorem isC_made (seed : List B8) (k : Nat) (b : List B8) (e : Ent) (n : Nat) (h : Hdr) (he : okL e n) (hh : okH h) (hs : e.s = h.s) (hp : e.p = h.p) (hr : h.r = rootD (LSof b e n)) : isC seed (k : Int) (mkX seed k (LSof b e n) e h) = decide (h.s < (k : Int)) := by
  have h0 : 0 ≤ h.s := by unfold okH at hh; omega
  rw [isC_code]
  unfold mkX clmC tagC
  simp only
  rw [decide_eq_true he.1, decide_eq_true hh, decide_eq_true hs, decide_eq_true hp]
  simp only [Bool.true_and]
  have hc : climbZ (formE e) 1 3 (pathD (LSof b e n) 1) = some (rootD (LSof b e n)) := by
    have h1 : climbZ (formE e) ((1 : Nat) : Int) ((3 : Nat) : Int) (pathD (LSof b e n) 1) = climbD (formE e) 1 3 (pathD (LSof b e n) 1) := climbZ_nat (by omega) (by omega)
    have h2 := climb_path 3 (LSof b e n) 1 (formE e) (by rw [LSof_ok he]; simp) (by rw [LSof_ok he]; simp) (by rw [LSof_ok he]; rfl)
    rw [show (LSof b e n).length = 3 by rw [LSof_ok he]; rfl] at h2
    exact h1.trans h2
  rw [hc, hr]
  have hi : isD (rootD (LSof b e n)) (some (rootD (LSof b e n))) = true := by unfold isD; simp
  rw [hi, Bool.true_and]
  by_cases hk : h.s < (k : Int)
  · unfold signZ
    rw [if_pos ⟨h0, hk⟩]
    simp
  · rw [decide_eq_false hk, Bool.false_and]
theorem isC_turned (seed : List B8) (k : Int) (x : Crt) (t : List B8) (h : t ≠ signD seed x.h.s.toNat (formH x.h)) : isC seed k { x with t := t } = false := by
  rw [isC_code]
  have : tagC seed k { x with t := t } = false := by
    unfold tagC
    simp only
    have hd : decide (signD seed x.h.s.toNat (formH x.h) = t) = false := decide_eq_false (fun e => h e.symm)
    rw [hd, Bool.and_false]
  rw [this]
  simp
theorem CAt.setT1 {w : World} {P : Nat} {x : Crt} {A : Option Addr} {c : Nat} (h : CAt w P x A c) (hl : x.L) (i : Nat) (hi : i < 32) (y : B8) : CAt (w.setCell ⟨P, 105 + i, none⟩ (bv y)) P { x with t := x.t.set i y } A c ∧ Turn (fun i => i = P) w (w.setCell ⟨P, 105 + i, none⟩ (bv y)) := by
  refine ⟨?_, (Turn.refl _ _).setCell _ _ (fun _ => rfl)⟩
  unfold CAt at h ⊢
  rw [heap_setCell_same w P (105 + i) _ _ _ h]
  have n37 : x.e.cells.length = 37 := Ent.len _ hl.1
  have n67 : x.h.cells.length = 67 := Hdr.len _ hl.2.1
  have e : (x.cells A c).toArray.setIfInBounds (105 + i) (bv y) = ({ x with t := x.t.set i y }.cells A c).toArray := by
    unfold Crt.cells
    rw [List.setIfInBounds_toArray, List.set_append, if_neg (by omega), n37, List.set_append, if_neg (by simp; omega)]
    rw [List.length_singleton, List.set_append, if_neg (by omega), n67]
    rw [show 105 + i - 37 - 1 - 67 = i by omega, List.map_set]
  rw [e]
theorem CAt.t1 {w : World} {P : Nat} {x : Crt} {A : Option Addr} {c : Nat} (h : CAt w P x A c) (hl : x.L) (i : Nat) (hi : i < 32) : ∃ y, x.t[i]? = some y ∧ w.cell? ⟨P, 105 + i, none⟩ = some (bv y) := by
  obtain ⟨y, hy⟩ : ∃ y, x.t[i]? = some y := ⟨_, List.getElem?_eq_getElem (by rw [hl.2.2.1]; exact hi)⟩
  refine ⟨y, hy, ?_⟩
  exact (h.facts hl).tagR i (bv y) (by rw [List.getElem?_map, hy]; rfl)
/-- The example's entry. -/
def eK : Ent := ⟨1, 1, zeros 32, 7, 0, 0⟩
theorem okL_eK : okL eK 9 := by unfold okL okB eK; decide
def hK : Hdr := ⟨1, 1, 0, zeros 32, rootD (LSof [1] eK 9)⟩
theorem hK_L : hK.L := ⟨rfl, rootD_len _⟩
theorem hK_ok : okH hK := by unfold okH hK; decide
def xK : Crt := mkX [3] 2 (LSof [1] eK 9) eK hK
theorem isC_xK : isC [3] 2 xK = true := by
  have h := isC_made [3] 2 [1] eK 9 hK okL_eK hK_ok rfl rfl rfl
  rw [show isC [3] 2 xK = isC [3] ((2 : Nat) : Int) (mkX [3] 2 (LSof [1] eK 9) eK hK) from rfl, h]
  decide
theorem okMake_xK : okMake [3] 2 (LSof [1] eK 9) eK hK = true := by
  have h := isC_xK
  unfold okMake
  rw [show isC [3] ((2 : Nat) : Int) (mkX [3] 2 (LSof [1] eK 9) eK hK) = true from h, decide_eq_true hK_ok]
  unfold holdsB
  rw [decide_eq_true okL_eK.1, LSof_ok okL_eK]
  simp
theorem xK_L : xK.L := ⟨rfl, hK_L, (show ((signZ [3] 2 hK.s (formH hK)).getD (zeros 32)).length = 32 from signZ_len _ _ _ _), fun d hd => pathZ_ids (LSof [1] eK 9) d (by rw [show pathZ (LSof [1] eK 9) 1 = pathD (LSof [1] eK 9) 1 from pathZ_nat _ 1]; exact hd)⟩
theorem xK_ids : xK.ids.length ≤ 1000000 := by
  have := pathD_size 3 (LSof [1] eK 9) 1 (LSof_le _ _ _)
  show (pathD (LSof [1] eK 9) 1).length ≤ 1000000
  omega
theorem xK_tag : xK.t = signD [3] hK.s.toNat (formH hK) := by
  show (signZ [3] 2 hK.s (formH hK)).getD (zeros 32) = _
  generalize formH hK = F
  unfold signZ
  rw [if_pos (show (0 : Int) ≤ hK.s ∧ hK.s < ((2 : Nat) : Int) from ⟨by decide, by decide⟩), Option.getD_some]
theorem xor_ne (y : B8) : y ^^^ 1 ≠ y := by
  revert y; decide
theorem isC_xK2 (y : B8) (hy : xK.t[5]? = some y) : isC [3] 2 { xK with t := xK.t.set 5 (y ^^^ 1) } = false := by
  refine isC_turned [3] 2 xK _ ?_
  intro e
  rw [show xK.h = hK from rfl, ← xK_tag] at e
  have h5 : (xK.t.set 5 (y ^^^ 1))[5]? = some (y ^^^ 1) := by
    rw [List.getElem?_set_self]
    rw [xK_L.2.2.1]; decide
  rw [e, hy] at h5
  injection h5 with h5
  exact xor_ne y h5.symm
set_option maxRecDepth 100000 in
set_option maxHeartbeats 16000000 in
theorem cawake_any (w : World) (hG : Glob w) : Calls Tryz.prog 4 #[] w fun r w' => r = .returned (.bool true) ∧ Turn (fun _ => False) w w' := by
  obtain ⟨w1, hw1⟩ : ∃ w1, w1 = w.alloc (.cells #[.int .u8 3] 5) := ⟨_, rfl⟩
  have t1 : Turn (fun _ => False) w w1 := by rw [hw1]; exact (Turn.refl _ _).alloc _
  have hB : Bts w1 (some ⟨w.heap.size, 0, none⟩) [3] := by
    rw [hw1]; exact bts_rowT (d := [3]) (heap_alloc_new w _)
  have KY := Lib.hid (keys_some (some ⟨w.heap.size, 0, none⟩) 1 2 [3] w1 hB (by decide) (glob_turn hG t1) (by decide) (by decide) (by decide))
  have GL := Lib.hid (fun (w' : World) (t : Turn (fun _ => False) w1 w') => show Glob w' from glob_turn (glob_turn hG t1) t)
  have T1 := Lib.hid t1
  -- the entry
  obtain ⟨EK, hEK⟩ : ∃ C, C = eK.cells.toArray := ⟨_, rfl⟩
  have sE : EK.size = 37 := by rw [hEK]; rfl
  have E1 := Lib.hid (show (Tryz.prog.info? 27).map (·.size) = some EK.size by rw [sE]; exact en_info)
  have E2 := Lib.hid (show Z37E.size = EK.size by rw [sE]; rfl)
  have E3 := Lib.hid (show EK.all (·.oneCell') = true by rw [hEK]; exact Ent.one _)
  have HEK := Lib.hid hEK
  have LE := Lib.hid (fun (g : Nat) (w' : World) (hB : Bts w' (some ⟨g, 0, none⟩) [1]) => hleaves_u (some ⟨g, 0, none⟩) 1 [1] eK 9 w' hB (fun h => by cases h) (Nat.le_refl _) (by decide) rfl (by decide))
  rw [decide_eq_true okL_eK, ← hEK] at LE
  have hll : (LSof [1] eK 9).length = 3 := by rw [LSof_ok okL_eK]; rfl
  have hsm := LSof_small [1] eK 9 rfl (by decide) (by decide)
  -- the header
  obtain ⟨HKC, hHK⟩ : ∃ C, C = hK.cells.toArray := ⟨_, rfl⟩
  have sH : HKC.size = 67 := by rw [hHK, List.size_toArray, Hdr.len _ hK_L]
  have H1 := Lib.hid (show (Tryz.prog.info? 33).map (·.size) = some HKC.size by rw [sH]; exact hd_info)
  have H2 := Lib.hid (show Z67H.size = HKC.size by rw [sH]; rfl)
  have H3 := Lib.hid (show HKC.all (·.oneCell') = true by rw [hHK]; exact Hdr.one _)
  have hok : okN HZ true 3 (rootD (LSof [1] eK 9)) 1 0 := ⟨rfl, .inl rfl, hK_ok⟩
  have hV : nxV HZ true 3 (rootD (LSof [1] eK 9)) 1 0 = hK := by unfold nxV; rw [if_pos hok]; rfl
  have NX := Lib.hid (fun (L : Option Addr) (w' : World) (hL : LstN w' L (LSof [1] eK 9)) (hA : L = none → (LSof [1] eK 9).length = 0) (hg : Glob w') => hnext_any HZ true L (LSof [1] eK 9).length (LSof [1] eK 9).length (LSof [1] eK 9) 1 0 w' rfl HZ_L hL (Nat.le_refl _) hA hsm hg)
  unfold NPost at NX
  rw [hll, hV, decide_eq_true hok, ← hHK] at NX
  have MK := Lib.hid (fun (gr gk : Nat) (L : Option Addr) (w' : World) (hR : RingAt w' gr gk [3] 2) (hL : LstN w' L (LSof [1] eK 9)) (hA : L = none → (LSof [1] eK 9).length = 0) (hg : Glob w') => cmake_any gr gk 2 [3] L (LSof [1] eK 9).length (LSof [1] eK 9) eK hK w' hR (by decide) hg hL (Nat.le_refl _) hA (by rw [hll]; decide) hsm rfl hK_L)
  unfold MkPost at MK
  simp only [if_pos okMake_xK] at MK
  rw [← hEK, ← hHK, hll] at MK
  rw [show mkX [3] 2 (LSof [1] eK 9) eK hK = xK from rfl] at MK
  rw [hll] at LE
  have IS := Lib.hid (fun (gr gk : Nat) (x : Crt) (A : Option Addr) (c : Nat) (w' : World) hR hG hx px mx => cis_any gr gk 2 [3] x A c w' hR (by decide) hG hx px mx)
  have IN := Lib.hid (fun (x : Crt) (A : Option Addr) (c : Nat) (w' : World) hx => cis_nil x A c w' hx)
  have XL := Lib.hid xK_L
  have XI := Lib.hid xK_ids
  have XT := Lib.hid isC_xK
  have XU := Lib.hid isC_xK2
  generalize xK = M at *
  generalize LSof [1] eK 9 = LS at *
  have hzd := hd_zero
  have hze := en_zero
  have hcz := cr_zero
  obtain ⟨ZC, hZC⟩ : ∃ L, L = (CZ.cells none 0).toArray := ⟨_, rfl⟩
  rw [← hZC] at hcz
  have sZ : ZC.size = 137 := by rw [hZC, List.size_toArray, Crt.len _ _ _ CZ_L]
  have HSZ := Lib.hid sZ
  have HHK := Lib.hid hHK
  clear t1 hB hG sE hEK sH hHK hok hV hZC sZ hsm
  unfold ringV at *
  go_enter Tryz.func4, Tryz.ntmps4
  go_wp2_with (go_at_call 5; refine stop ?_)
  unfold Stop
  change Calls _ _ _ (w.alloc (.cells #[.int .u8 3] 5)) _
  rw [← hw1]
  clear hw1
  refine KY.out.mono ?_
  rintro r w2 ⟨gr, gk, rfl, hR, hb2⟩
  have T2 := Lib.hid (of_turn hb2)
  have RX := Lib.hid (show ∀ w' : World, Turn (fun _ => False) w2 w' → RingAt w' gr gk [3] 2 from fun w' t => hR.below (turn_stp' t))
  clear hR hb2 KY
  go_upto_region 3 with (refine wpList_store_row rfl _ _ _ rfl w2.heap.size EK rfl (by rw [HEK.out]; rfl) 27 Z37E (heap_alloc_new w2 _) E1.out E2.out E3.out ?_; rw [World.setRow_alloc_new])
  obtain ⟨w3, hw3⟩ : ∃ w3, w3 = w2.alloc (.cells EK 27) := ⟨_, rfl⟩
  have t3 : Turn (fun _ => False) w2 w3 := by rw [hw3]; exact (Turn.refl _ _).alloc _
  have g3 : w3.heap[w2.heap.size]? = some (.cells EK 27 (0, 0)) := by rw [hw3]; exact heap_alloc_new _ _
  change Code.wp _ _ _ _ (w2.alloc (.cells EK 27))
  rw [← hw3]
  have T3 := Lib.hid t3
  have RE := Lib.hid (show ∀ w' : World, Turn (fun _ => False) w3 w' → rowOf w' w2.heap.size 0 37 = some EK from fun w' t => by
    have h : EAt w' w2.heap.size eK := by unfold EAt; rw [← HEK.out]; exact t.heap g3 (fun h => h)
    rw [HEK.out]; exact h.row rfl)
  clear hw3 t3 g3
  generalize w2.heap.size = p2 at *
  -- the leaves
  obtain ⟨w4, hw4⟩ : ∃ w4, w4 = w3.alloc (.cells #[.int .u8 1] 5) := ⟨_, rfl⟩
  have t4 : Turn (fun _ => False) w3 w4 := by rw [hw4]; exact (Turn.refl _ _).alloc _
  have T4 := Lib.hid t4
  have hb4 : Bts w4 (some ⟨w3.heap.size, 0, none⟩) [1] := by
    rw [hw4]; exact bts_rowT (d := [1]) (heap_alloc_new w3 _)
  have L4 := Lib.hid (LE.out w3.heap.size w4 hb4)
  have r4 : rowOf (w3.alloc (.cells #[.int .u8 1] 5)) p2 0 37 = some EK := by rw [← hw4]; exact RE.out w4 T4.out
  clear t4 hb4
  go_wp2_with (go_at_call 13; refine stop ?_)
  unfold Stop
  change Calls _ _ _ (w3.alloc (.cells #[.int .u8 1] 5)) _
  rw [← hw4]
  clear hw4 r4
  refine L4.out.mono ?_
  rintro r w5 ⟨t5, L, rfl, hL5, hn5⟩
  have T5 := Lib.hid (T4.out.trans t5 (fun _ _ h => h))
  have HL5 := Lib.hid hL5
  have HN5 := Lib.hid hn5
  have N5 := Lib.hid (NX.out L w5 hL5 hn5 (GL.out w5 ((T2.out.trans T3.out (fun _ _ h => h)).trans T5.out (fun _ _ h => h))))
  clear t5 hL5 hn5 L4
  -- the header
  go_wp2_with (go_at_call 14; refine stop ?_)
  unfold Stop
  refine N5.out.mono ?_
  rintro r w6 ⟨rfl, t6⟩
  have T6 := Lib.hid (T5.out.trans t6 (fun _ _ h => h))
  have HL6 := Lib.hid (lstn_turn HL5.out t6)
  clear t6 N5 HL5
  go_upto_region 5 with (refine wpList_store_row rfl _ _ _ rfl w6.heap.size HKC rfl rfl 33 Z67H (heap_alloc_new w6 _) H1.out H2.out H3.out ?_; rw [World.setRow_alloc_new])
  obtain ⟨w7, hw7⟩ : ∃ w7, w7 = w6.alloc (.cells HKC 33) := ⟨_, rfl⟩
  have t7 : Turn (fun _ => False) w6 w7 := by rw [hw7]; exact (Turn.refl _ _).alloc _
  have g7 : w7.heap[w6.heap.size]? = some (.cells HKC 33 (0, 0)) := by rw [hw7]; exact heap_alloc_new _ _
  change Code.wp _ _ _ _ (w6.alloc (.cells HKC 33))
  rw [← hw7]
  have T7 := Lib.hid (T6.out.trans t7 (fun _ _ h => h))
  have HL7 := Lib.hid (lstn_turn HL6.out t7)
  have rh : rowOf w7 w6.heap.size 0 67 = some HKC := by
    have h : HAt w7 w6.heap.size hK := by unfold HAt; rw [← HHK.out]; exact g7
    rw [HHK.out]; exact h.row hK_L
  have re := RE.out w7 T7.out
  have M7 := Lib.hid (MK.out gr gk L w7 (RX.out w7 (T3.out.trans T7.out (fun _ _ h => h))) HL7.out HN5.out (GL.out w7 ((T2.out.trans T3.out (fun _ _ h => h)).trans T7.out (fun _ _ h => h))))
  unfold ringV at M7
  clear hw7 t7 g7 HL6
  generalize w6.heap.size = p5 at *
  -- the certificate
  go_wp2_with (go_at_call 15; refine stop ?_)
  unfold Stop
  refine M7.out.mono ?_
  rintro r w8 ⟨t8, A, c, rfl, px⟩
  have T8 := Lib.hid (T7.out.trans t8 (fun _ _ h => h))
  have P8 := Lib.hid px
  obtain ⟨XC, hXC⟩ : ∃ X, X = (M.cells A c).toArray := ⟨_, rfl⟩
  rw [← hXC]
  have sX : XC.size = 137 := by rw [hXC, List.size_toArray, Crt.len _ _ _ XL.out]
  have X1 := Lib.hid (show (Tryz.prog.info? 35).map (·.size) = some XC.size by rw [sX]; exact cr_info)
  have X2 := Lib.hid (show ZC.size = XC.size by rw [sX, HSZ.out])
  have X3 := Lib.hid (show XC.all (·.oneCell') = true by rw [hXC]; exact Crt.one _ _ _)
  have HXC := Lib.hid hXC
  clear t8 px rh re M7 hXC sX
  go_upto_region 6 with (refine wpList_store_row rfl _ _ _ rfl w8.heap.size XC rfl rfl 35 ZC (heap_alloc_new w8 _) X1.out X2.out X3.out ?_; rw [World.setRow_alloc_new])
  obtain ⟨w9, hw9⟩ : ∃ w9, w9 = w8.alloc (.cells XC 35) := ⟨_, rfl⟩
  have t9 : Turn (fun _ => False) w8 w9 := by rw [hw9]; exact (Turn.refl _ _).alloc _
  have g9 : CAt w9 w8.heap.size M A c := by unfold CAt; rw [← HXC.out, hw9]; exact heap_alloc_new _ _
  change Code.wp _ _ _ _ (w8.alloc (.cells XC 35))
  rw [← hw9]
  have T9 := Lib.hid (T8.out.trans t9 (fun _ _ h => h))
  have P9 := Lib.hid (P8.out.turn t9)
  have C9 := Lib.hid g9
  have S9 := Lib.hid (show w8.heap.size < w9.heap.size by rw [hw9]; simp)
  have HB8 := Lib.hid T8.out.size
  have PQ := Lib.hid (show ∀ i d, M.ids[i]? = some d → ∃ b o, A = some ⟨b, o, none⟩ ∧ b < w8.heap.size from fun i d hi => by
    obtain ⟨-, b, o, e, hb, -⟩ := P8.out.1 i d hi
    exact ⟨b, o, e, hb⟩)
  clear hw9 t9 g9 P8
  have SP := Lib.hid (show w3.heap.size ≤ w8.heap.size from HB8.out)
  generalize w8.heap.size = q at *
  have r9 : rowOf w9 q 0 137 = some XC := by rw [HXC.out]; exact (C9.out.facts XL.out).all
  have I9 := Lib.hid (IS.out gr gk M A c w9 (RX.out w9 (T3.out.trans T9.out (fun _ _ h => h))) (GL.out w9 ((T2.out.trans T3.out (fun _ _ h => h)).trans T9.out (fun _ _ h => h))) XL.out P9.out XI.out)
  unfold ringV at I9
  rw [← HXC.out, show isC [3] ((2 : Nat) : Int) M = true from XT.out] at I9
  go_wp2_with (go_at_call 8; refine stop ?_)
  unfold Stop
  refine I9.out.mono ?_
  rintro r wa ⟨rfl, ta⟩
  have TA := Lib.hid (T9.out.trans ta (fun _ _ h => h))
  have CA := Lib.hid (show CAt wa q M A c from ta.heap C9.out (fun h => h))
  have PA := Lib.hid (P9.out.turn ta)
  have ra : rowOf wa q 0 137 = some XC := by rw [HXC.out]; exact (CA.out.facts XL.out).all
  have IA := Lib.hid (IN.out M A c wa XL.out)
  rw [← HXC.out] at IA
  have SA := Lib.hid (show q < wa.heap.size by have := S9.out; have := ta.size; omega)
  clear ta I9 r9 P9 C9 T9
  go_wp2_with (go_at_call 8; refine stop ?_)
  unfold Stop
  refine IA.out.mono ?_
  rintro r wb ⟨rfl, tb⟩
  have TB := Lib.hid (TA.out.trans tb (fun _ _ h => h))
  have CB := Lib.hid (show CAt wb q M A c from tb.heap CA.out (fun h => h))
  have PB := Lib.hid (PA.out.turn tb)
  clear tb IA ra PA CA TA
  -- a bit of the tag turned
  obtain ⟨y, hy, cy⟩ := CB.out.t1 XL.out 5 (by decide)
  have zy := frozen_of_row wb q (105 + 5) _ _ CB.out
  have hx1 : bits .xor .u8 (y.toNat : Int) 1 = ((y ^^^ 1).toNat : Int) := (bbits y 1).2.2
  have HY := Lib.hid hy
  unfold bv at cy
  clear hy
  go_upto_region 9 with fail
  obtain ⟨ec, tc⟩ := CB.out.setT1 XL.out 5 (by decide) (y ^^^ 1)
  obtain ⟨wc, hwc⟩ : ∃ v, v = wb.setCell ⟨q, 105 + 5, none⟩ (bv (y ^^^ 1)) := ⟨_, rfl⟩
  change Code.wp _ _ _ _ (wb.setCell ⟨q, 105 + 5, none⟩ (bv (y ^^^ 1)))
  rw [← hwc] at ec tc ⊢
  obtain ⟨M2, hM2⟩ : ∃ m, m = ({ M with t := M.t.set 5 (y ^^^ 1) } : Crt) := ⟨_, rfl⟩
  have hL2 : M2.L := by rw [hM2]; exact ⟨XL.out.1, XL.out.2.1, by show (M.t.set 5 (y ^^^ 1)).length = 32; rw [List.length_set]; exact XL.out.2.2.1, XL.out.2.2.2⟩
  have hid2 : M2.ids = M.ids := by rw [hM2]
  have hf2 : isC [3] ((2 : Nat) : Int) M2 = false := by rw [hM2]; exact XU.out y HY.out
  rw [← hM2] at ec
  have P2 : CPath wc M2 A c := by
    unfold CPath
    rw [hid2]
    refine ⟨fun i d hi => ?_, PB.out.2⟩
    obtain ⟨h1, b, o, e, hb, hr⟩ := PB.out.1 i d hi
    obtain ⟨b', o', e', hlt⟩ := PQ.out i d hi
    rw [e] at e'
    injection e' with e'
    injection e' with e1 e2
    exact ⟨h1, b, o, e, by have := tc.size; omega, fun j v hj => tc.cell (hr j v hj) (show ¬ b = q by omega)⟩
  have TC := Lib.hid (show Turn (fun _ => False) w3 wc from TB.out.trans tc (fun i hi h => by have := SP.out; omega))
  have I2 := Lib.hid (IS.out gr gk M2 A c wc (RX.out wc (T3.out.trans TC.out (fun _ _ h => h))) (GL.out wc ((T2.out.trans T3.out (fun _ _ h => h)).trans TC.out (fun _ _ h => h))) hL2 P2 (by rw [hid2]; exact XI.out))
  have r2 := (ec.facts hL2).all
  obtain ⟨XD, hXD⟩ : ∃ X, X = (M2.cells A c).toArray := ⟨_, rfl⟩
  unfold ringV at I2
  rw [← hXD, hf2] at I2
  rw [← hXD] at r2
  clear hwc ec tc hM2 hL2 hid2 hf2 P2 hXD cy zy hx1
  go_wp2_with (go_at_call 8; refine stop ?_)
  unfold Stop
  refine I2.out.mono ?_
  rintro r wd ⟨rfl, td⟩
  have TD := Lib.hid ((T2.out.trans T3.out (fun _ _ h => h)).trans (TC.out.trans td (fun _ _ h => h)) (fun _ _ h => h))
  clear td r2
  go_wp2
  go_ret
  exact ⟨rfl, T1.out.trans TD.out (fun _ _ h => h)⟩
theorem to_below {f : FuncId} {args : Array Value} {w : World} (h : Calls Tryz.prog f args w fun r w' => r = .returned (.bool true) ∧ Turn (fun _ => False) w w') : Calls Tryz.prog f args w fun r w' => r = .returned (.bool true) ∧ Below w.heap.size w w' := h.mono fun _ _ ⟨h1, h2⟩ => ⟨h1, turn_stp' h2⟩
end
end Go.Proofs.YthoaaieiiokcmaaGreatDoor
