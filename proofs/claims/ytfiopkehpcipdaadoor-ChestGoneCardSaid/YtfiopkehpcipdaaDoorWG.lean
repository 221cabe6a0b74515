/- ChestGone: when the power failed nothing more is kept or turned. -/
import Derived.Test.YtfiopkehpcipdaaDoorR00
set_option linter.unusedVariables false
set_option linter.unusedSimpArgs false
namespace Go.Proofs.YtfiopkehpcipdaaDoor
open Go.RowKit
set_option maxRecDepth 100000
theorem form_big {t n N : Nat} (ht : t ≤ 100) (hn : n ≤ 100) (hN : N ≤ 100000) : (N ≤ 60000 → formE13 (t : Int) (n : Int) (zeros N) = 0 ∧ (12 + N + 63) / 64 ≤ secsOf (formV13 (t : Int) (n : Int) (zeros N))) ∧ (65524 < N → formE13 (t : Int) (n : Int) (zeros N) = 4) := by
  have hz : (zeros N).length = N := zeros_len N
  have hf := fldS_len t n (zeros N)
  have h1 := numB_small (n := t) (by omega)
  have h2 := numB_small (n := n) (by omega)
  have h3 := numB_small (n := N) (by omega)
  rw [hz] at hf
  refine ⟨fun h => ?_, fun h => ?_⟩
  · have hE : formE13 (t : Int) (n : Int) (zeros N) = 0 := formE_ok (by unfold mostS; omega) (by unfold mostS; omega) (by omega)
    refine ⟨hE, ?_⟩
    rw [form_secs hE]
    omega
  · rw [formE13_nat (by omega) (by omega), if_pos (by omega)]
theorem turnP_full {k : Ck} {half : Nat} {b : List B8} (hE : formE13 ((k.t + 1 : Nat) : Int) 0 b = 0) (hs : half < secsOf (formV13 ((k.t + 1 : Nat) : Int) 0 b)) : turnP k half b = 18 := by
  unfold turnP; rw [if_neg (by rw [hE]; simp), if_pos hs]
theorem turnP_long {k : Ck} {half : Nat} {b : List B8} (hE : formE13 ((k.t + 1 : Nat) : Int) 0 b ≠ 0) : turnP k half b = formE13 ((k.t + 1 : Nat) : Int) 0 b := by
  unfold turnP; rw [if_pos hE]
theorem gst_new {d : Dr} {w : World} {g c : Nat} {D E : Nat → Prop} {p B : Nat} (ka : KAt w g c 16 d ⟨0, 1, [[]], p⟩ D E) (ho : d.off = false) (hW : d.W = []) (hD : ∀ j, D j → B ≤ j) (hE : ∀ j, E j → B ≤ j) : GSt w g c 16 0 B true := by
  unfold GSt
  rw [if_pos rfl]
  exact ⟨d, _, D, E, ka, ho, by rw [hW]; exact Nat.zero_le _, Nat.le_refl _, Nat.le_refl _, hD, hE⟩
theorem GSt.fuse {w : World} {g c n i B : Nat} (h : GSt w g c n i B true) (a : Int) (ha : a < 9223372036854775808) : Calls Tryd.prog 20 #[.pointer (some ⟨g, 0, none⟩), .int .i64 a] w fun r w' => (∃ v, r = .returned v) ∧ GSt w' g c n i B true ∧ Turn (fun j => B ≤ j) w w' := by
  unfold GSt at h
  rw [if_pos rfl] at h
  obtain ⟨d, k, D, E, ka, ho, hW, hkt, hkL, hD, hE⟩ := h
  have hoff : (d.lay a).off = false := ho
  refine (ka.ld.fuse a ha).mono ?_
  rintro r w' ⟨hv, ld', t⟩
  refine ⟨hv, ?_, t.mono (fun j _ h => hD j h)⟩
  unfold GSt
  rw [if_pos rfl]
  obtain ⟨ld, ok, ⟨s, hd, Ah, ch, NV, o, vs, h1, h2, h3, h4, h5, h6, h7, h8, h9, h10, h11⟩, own, two, dj, lt⟩ := ka
  refine ⟨d.lay a, k, D, E, ⟨ld', ok, ⟨s, hd, Ah, ch, NV, o, vs, h1.turn t (dj c own), sbp_keep h2 t (fun j hj hd => by subst hj; exact dj _ h10 hd), h3, h4.turn t (fun _ h => .inl h) (fun _ _ h => h), h5, h6, ownsO_turn h7 t (fun j hj hd => dj _ (h11 j hj).1 hd), h8.turn t (fun _ h => .inl h) (fun _ _ h => h), h9, h10, h11⟩, own, two, dj, fun j hj => Nat.lt_of_lt_of_le (lt j hj) t.size⟩, hoff, hW, hkt, hkL, hD, hE⟩
set_option maxHeartbeats 16000000 in
theorem chestGone_of (f : Nat) (hf : f < 256) (A : Option Addr) (c0 : Nat) (b : List B8) (A2 : Option Addr) (c2 : Nat) (ts : List Bool) (w : World) (hG : Glob w) (hb : Sl w w.heap.size A (b.map bv)) (hA : A = none → c0 = 0) (hc : b.length ≤ c0) (hts : Sl w w.heap.size A2 (ts.map bov)) (hm : ts.length ≤ maxLen) :
    Calls Tryd.prog 7 #[.int .u8 (f : Int), .slice A b.length c0, .slice A2 ts.length c2] w fun r w' => r = .returned (.bool true) ∧ Turn (fun _ => False) w w' := by
  have AW := Lib.hid (fun (w' : World) (t : Turn (fun _ => False) w w') => awake14 w' (glob_turn hG t))
  obtain ⟨lb, hlb⟩ : ∃ x, x = b.length := ⟨_, rfl⟩
  obtain ⟨lt, hlt⟩ : ∃ x, x = ts.length := ⟨_, rfl⟩
  rw [← hlb, ← hlt]
  by_cases hbig : 12 < lt ∨ 100 < lb
  · have HBG := Lib.hid hbig
    by_cases h12 : 12 < lt
    · have d1 : decide ((12 : Int) < (lt : Int)) = true := decide_eq_true (by omega)
      have d1' : decide (12 < lt) = true := decide_eq_true h12
      clear hbig h12 hb hts hlb hlt hA hc hm
      go_enter Tryd.func7, Tryd.ntmps7
      go_wp2_with (go_at_call 9; refine stop ?_)
      unfold Stop
      refine (AW.out w (Turn.refl _ _)).mono ?_
      rintro r w6 ⟨rfl, t6⟩
      have T6 := Lib.hid t6
      clear t6
      go_wp2
      go_ret
      exact ⟨rfl, T6.out⟩
    · have d1 : decide ((12 : Int) < (lt : Int)) = false := decide_eq_false (by omega)
      have d1' : decide (12 < lt) = false := decide_eq_false h12
      have d2 : decide ((100 : Int) < (lb : Int)) = true := decide_eq_true (by omega)
      have d2' : decide (100 < lb) = true := decide_eq_true (by omega)
      clear hbig h12 hb hts hlb hlt hA hc hm
      go_enter Tryd.func7, Tryd.ntmps7
      go_wp2_with (go_at_call 9; refine stop ?_)
      unfold Stop
      refine (AW.out w (Turn.refl _ _)).mono ?_
      rintro r w6 ⟨rfl, t6⟩
      have T6 := Lib.hid t6
      clear t6
      go_wp2
      go_ret
      exact ⟨rfl, T6.out⟩
  rw [not_or] at hbig
  obtain ⟨h12, h100⟩ := hbig
  have d1 : decide ((12 : Int) < (lt : Int)) = false := decide_eq_false (by omega)
  have d1' : decide (12 < lt) = false := decide_eq_false h12
  have d2 : decide ((100 : Int) < (lb : Int)) = false := decide_eq_false (by omega)
  have d2' : decide (100 < lb) = false := decide_eq_false h100
  have NW := Lib.hid (LD.new 16 (by omega) (by omega) w hG)
  have HBS := Lib.hid hb
  have HTS := Lib.hid hts
  have HAC := Lib.hid (And.intro hA hc)
  have HLB := Lib.hid hlb
  have HLT := Lib.hid hlt
  have HGG := Lib.hid hG
  clear hb hts hA hc hlb hlt hm
  go_enter Tryd.func7, Tryd.ntmps7
  go_wp2_with (go_at_call 10; refine stop ?_)
  unfold Stop
  refine NW.out.mono ?_
  rintro r w1 ⟨g, rfl, l1, t1⟩
  obtain ⟨b1, b2, b3, b4⟩ := chest_new (n := 16) (by omega)
  have OP := Lib.hid (kopen_any w1 g 16 (Dr.new 16) _ l1 rfl (by omega) (by omega) (by show 0 + 8 + 1024 < 10000; omega))
  have T1 := Lib.hid t1
  have HB := Lib.hid (And.intro b1 (And.intro b2 (And.intro b3 b4)))
  clear NW l1 t1 b1 b2 b3 b4
  go_wp2_with (go_at_call 11; refine stop ?_)
  unfold Stop
  refine OP.out.mono ?_
  rintro r w2 ⟨D2, hD2, t2, hpost⟩
  rcases hpost with ⟨-, c, E2, rfl, ka, hE2⟩ | ⟨he, -⟩
  rotate_left 1
  · exact absurd HB.out.1 he
  rw [HB.out.2.2.2] at ka
  have KA := Lib.hid ka
  have TW := Lib.hid (show Turn (fun _ => False) w w2 from T1.out.trans t2 (fun k hk h => by have := h.1; omega))
  have DE := Lib.hid (show (∀ k, D2 k → w.heap.size ≤ k) ∧ (∀ k, E2 k → w.heap.size ≤ k) from ⟨fun k hk => (hD2 k hk).elim (fun h => h.1) (fun h => Nat.le_trans T1.out.size h.1), fun k hk => Nat.le_trans T1.out.size (hE2 k hk).1⟩)
  have hoff := HB.out.2.1.iv.on.off
  have hW0 := HB.out.2.2.1
  obtain ⟨d, hd⟩ : ∃ d, d = (begR (Dr.new 16) 16).1 := ⟨_, rfl⟩
  rw [← hd] at KA hoff hW0
  have HOW := Lib.hid (And.intro hoff hW0)
  clear OP ka t2 hD2 hE2 HB hoff hW0 hd
  obtain ⟨Z6, hZ6⟩ : ∃ Z, Z = ((zeros 600).map bv).toArray := ⟨_, rfl⟩
  obtain ⟨Z7, hZ7⟩ : ∃ Z, Z = ((zeros 70000).map bv).toArray := ⟨_, rfl⟩
  have mk6 : ∀ wx : World, (Instr.makeSlice 36 (.int .i64 600) (.int .i64 600)).run Tryd.prog wx = .ok (.slice (some ⟨wx.heap.size, 0, none⟩) 600 600) (wx.alloc (.cells Z6 5)) := fun wx => by rw [hZ6]; exact make_bytes 600 (by omega) wx
  have mk7 : ∀ wx : World, (Instr.makeSlice 36 (.int .i64 70000) (.int .i64 70000)).run Tryd.prog wx = .ok (.slice (some ⟨wx.heap.size, 0, none⟩) 70000 70000) (wx.alloc (.cells Z7 5)) := fun wx => by rw [hZ7]; exact make_bytes 70000 (by omega) wx
  have HZ6 := Lib.hid hZ6
  have HZ7 := Lib.hid hZ7
  clear hZ6 hZ7
  have z600 : (zeros 600).length = 600 := zeros_len 600
  have z70000 : (zeros 70000).length = 70000 := zeros_len 70000
  obtain ⟨fb1, -⟩ := form_big (t := 2) (n := 0) (N := 600) (by omega) (by omega) (by omega)
  obtain ⟨fb2, -⟩ := form_big (t := 1) (n := 1) (N := 600) (by omega) (by omega) (by omega)
  obtain ⟨-, fb3⟩ := form_big (t := 2) (n := 0) (N := 70000) (by omega) (by omega) (by omega)
  have tp1 : turnP ⟨0, 1, [[]], 1⟩ (16 / 2) (zeros 600) = 18 := by
    obtain ⟨q1, q2⟩ := fb1 (by omega)
    exact turnP_full q1 (show 8 < secsOf (formV13 ((2 : Nat) : Int) ((0 : Nat) : Int) (zeros 600)) by omega)
  have tp3 : turnP ⟨0, 1, [[]], 1⟩ (16 / 2) (zeros 70000) = 4 := by
    have q := fb3 (by omega)
    exact (turnP_long (k := ⟨0, 1, [[]], 1⟩) (half := 16 / 2) (b := zeros 70000) (fun h => by rw [show formE13 (((Ck.mk 0 1 [[]] 1).t + 1 : Nat) : Int) 0 (zeros 70000) = 4 from q] at h; cases h)).trans q
  have kp2 : ((Ck.mk 0 1 [[]] 1).scr (16 / 2)).pre (zeros 600) = 18 := by
    obtain ⟨q1, q2⟩ := fb2 (by omega)
    unfold Scr.pre
    rw [if_neg (by simp [Ck.scr]), if_neg (show ¬ (((Ck.mk 0 1 [[]] 1).scr (16 / 2)).formE (zeros 600) ≠ 0) from fun h => h q1)]
    rw [if_pos (show ((Ck.mk 0 1 [[]] 1).scr (16 / 2)).fin < ((Ck.mk 0 1 [[]] 1).scr (16 / 2)).pos + secsOf (((Ck.mk 0 1 [[]] 1).scr (16 / 2)).form (zeros 600)) from (show 8 < 1 + secsOf (formV13 ((1 : Nat) : Int) ((1 : Nat) : Int) (zeros 600)) by omega))]
  have TPS := Lib.hid (And.intro tp1 (And.intro tp3 kp2))
  clear fb1 fb2 fb3 tp1 tp3 kp2
  -- the three that are refused
  have NEWZ := Lib.hid (show ∀ (wx : World) (D E : Nat → Prop) (N : Nat) (Z : Array Value), KAt wx g c 16 d ⟨0, 1, [[]], 1⟩ D E → Z = ((zeros N).map bv).toArray → SlN (wx.alloc (.cells Z 5)) (fun j => D j ∨ E j) (some ⟨wx.heap.size, 0, none⟩) ((zeros N).map bv) from fun wx D E N Z k hZ => (bts_new wx (zeros N) Z hZ).turn (Turn.refl (fun _ => False) _) (fun _ h => h.elim) (fun j _ h => h.elim (fun h => k.ld.lt j h) (fun h => k.lt j h)))
  go_wp2_with (go_at_call 18; refine stop ?_)
  unfold Stop
  have ta : Turn (fun _ => False) w2 (w2.alloc (.cells Z6 5)) := (Turn.refl _ _).alloc _
  have TU := kturn_any _ g c 16 _ d D2 E2 (some ⟨w2.heap.size, 0, none⟩) 600 (zeros 600) (KA.out.quiet ta) HOW.out.1 (by omega) (NEWZ.out w2 D2 E2 600 Z6 KA.out HZ6.out) (fun e => by cases e) (by rw [z600]; exact Nat.le_refl _) (by rw [z600]; omega) (by rw [HOW.out.2]; show 0 + 8 + 1024 < 10000; omega)
  rw [z600] at TU
  have TA := Lib.hid ta
  clear ta
  refine TU.mono ?_
  rintro r w3 ⟨D3, E3, hD3, hE3, t3, hpost⟩
  rcases hpost with ⟨-, rfl, k3⟩ | ⟨h0, -⟩
  rotate_left 1
  · rw [TPS.out.1] at h0; cases h0
  rw [TPS.out.1]
  have K3 := Lib.hid k3
  have DE3 := Lib.hid (show (∀ k, D3 k → w.heap.size ≤ k) ∧ (∀ k, E3 k → w.heap.size ≤ k) from ⟨fun k hk => (hD3 k hk).elim (DE.out.1 k) (fun h => by have := h.1; have := TA.out.size; have := TW.out.size; omega), fun k hk => (hE3 k hk).elim (DE.out.2 k) (fun h => by have := h.1; have := TA.out.size; have := TW.out.size; omega)⟩)
  have T3 := Lib.hid (show Turn (fun _ => False) w w3 from (TW.out.trans TA.out (fun _ _ h => h)).trans t3 (fun k hk h => h.elim (fun h => by have := DE.out.1 k h; omega) (fun h => by have := DE.out.2 k h; omega)))
  clear TU k3 hD3 hE3 t3 KA TW TA DE
  go_wp2_with (go_at_call 15; refine stop ?_)
  unfold Stop
  have ta : Turn (fun _ => False) w3 (w3.alloc (.cells Z6 5)) := (Turn.refl _ _).alloc _
  have KU := kkeep_any _ g c 16 d _ D3 E3 (some ⟨w3.heap.size, 0, none⟩) 600 (zeros 600) (K3.out.quiet ta) (by omega) (NEWZ.out w3 D3 E3 600 Z6 K3.out HZ6.out) (fun e => by cases e) (by rw [z600]; exact Nat.le_refl _) (by rw [z600]; omega) (by show 1 < 1000000; omega) (by rw [HOW.out.2]; show 0 + 1024 < 10000; omega)
  rw [z600] at KU
  have TA := Lib.hid ta
  clear ta
  refine KU.mono ?_
  rintro r w4 ⟨D4, E4, rfl, hD4, hE4, t4, hpost⟩
  have hPE : ((Ck.mk 0 1 [[]] 1).scr (16 / 2)).putE d (zeros 600) = 18 := by unfold Scr.putE; rw [if_pos (by rw [TPS.out.2.2]; decide), TPS.out.2.2]
  rcases hpost with ⟨h0, -⟩ | ⟨-, k4⟩ | ⟨-, h0, -⟩
  · rw [hPE] at h0; cases h0
  rotate_left 1
  · rw [TPS.out.2.2] at h0; cases h0
  rw [hPE]
  have K4 := Lib.hid k4
  have DE4 := Lib.hid (show (∀ k, D4 k → w.heap.size ≤ k) ∧ (∀ k, E4 k → w.heap.size ≤ k) from ⟨fun k hk => (hD4 k hk).elim (DE3.out.1 k) (fun h => by have := h.1; have := TA.out.size; have := T3.out.size; omega), fun k hk => (hE4 k hk).elim (DE3.out.2 k) (fun h => by have := h.1; have := TA.out.size; have := T3.out.size; omega)⟩)
  have T4 := Lib.hid (show Turn (fun _ => False) w w4 from (T3.out.trans TA.out (fun _ _ h => h)).trans t4 (fun k hk h => h.elim (fun h => by have := DE3.out.1 k h; omega) (fun h => by have := DE3.out.2 k h; omega)))
  clear KU k4 hD4 hE4 t4 K3 T3 TA DE3 hPE
  go_wp2_with (go_at_call 18; refine stop ?_)
  unfold Stop
  have ta : Turn (fun _ => False) w4 (w4.alloc (.cells Z7 5)) := (Turn.refl _ _).alloc _
  have TU := kturn_any _ g c 16 _ d D4 E4 (some ⟨w4.heap.size, 0, none⟩) 70000 (zeros 70000) (K4.out.quiet ta) HOW.out.1 (by omega) (NEWZ.out w4 D4 E4 70000 Z7 K4.out HZ7.out) (fun e => by cases e) (by rw [z70000]; exact Nat.le_refl _) (by rw [z70000]; omega) (by rw [HOW.out.2]; show 0 + 8 + 1024 < 10000; omega)
  rw [z70000] at TU
  have TA := Lib.hid ta
  clear ta
  refine TU.mono ?_
  rintro r w5 ⟨D5, E5, hD5, hE5, t5, hpost⟩
  rcases hpost with ⟨-, rfl, k5⟩ | ⟨h0, -⟩
  rotate_left 1
  · rw [TPS.out.2.1] at h0; cases h0
  rw [TPS.out.2.1]
  have K5 := Lib.hid k5
  have DE5 := Lib.hid (show (∀ k, D5 k → w.heap.size ≤ k) ∧ (∀ k, E5 k → w.heap.size ≤ k) from ⟨fun k hk => (hD5 k hk).elim (DE4.out.1 k) (fun h => by have := h.1; have := TA.out.size; have := T4.out.size; omega), fun k hk => (hE5 k hk).elim (DE4.out.2 k) (fun h => by have := h.1; have := TA.out.size; have := T4.out.size; omega)⟩)
  have T5 := Lib.hid (show Turn (fun _ => False) w w5 from (T4.out.trans TA.out (fun _ _ h => h)).trans t5 (fun k hk h => h.elim (fun h => by have := DE4.out.1 k h; omega) (fun h => by have := DE4.out.2 k h; omega)))
  have HD := Lib.hid (khead_any w5 g c 16 d _ D5 E5 K5.out)
  clear TU k5 hD5 hE5 t5 K4 T4 TA DE4 mk6 mk7
  go_wp2_with (go_at_call 27; refine stop ?_)
  unfold Stop
  refine HD.out.mono ?_
  rintro r w6 ⟨hdd, v, hL, rfl, ho, t6⟩
  have hL : ([[]] : List (List B8)) = hdd :: [] := hL
  injection hL with hL _
  subst hL
  obtain ⟨Ah, ch, rfl, -⟩ := own_sl ho
  have K6 := Lib.hid (K5.out.quiet t6)
  have T6 := Lib.hid (T5.out.trans t6 (fun _ _ h => h))
  obtain ⟨s, cs0, LF⟩ := kleft_any K6.out (by omega)
  have LF := Lib.hid (show Calls Tryd.prog 28 #[.pointer (some ⟨s, 0, none⟩)] w6 fun r w' => r = .returned (.int .i64 7) ∧ w' = w6 from LF)
  have GS := Lib.hid (gst_new K6.out HOW.out.1 HOW.out.2 DE5.out.1 DE5.out.2)
  have FU := Lib.hid (fun (a : Int) (ha : a < 9223372036854775808) => GS.out.fuse a ha)
  obtain ⟨k30, hk30⟩ : ∃ k, k = f % 30 := ⟨_, rfl⟩
  have hk : k30 < 30 := by omega
  have hrem : ((f : Int)).tmod 30 = (k30 : Int) := by rw [Int.tmod_eq_emod_of_nonneg (by omega)]; omega
  clear hk30
  clear HD ho t6 K5 T5 HOW
  go_wp2_with (first
    | (go_at_call 28; refine LF.out.mono ?_; clear LF; rintro r w2 ⟨rfl, hw⟩; rw [hw]; clear hw)
    | (go_at_call 20; refine stop ?_))
  unfold Stop
  refine (FU.out _ (by omega)).mono ?_
  rintro r w7 ⟨⟨vv, rfl⟩, gs7, t7⟩
  have G7 := Lib.hid gs7
  have T7 := Lib.hid (T6.out.trans t7 (fun j hj h => by have h : w.heap.size ≤ j := h; omega))
  clear FU GS gs7 t7 cs0 hrem hk K6 T6 DE5
  go_wp2
  go_loopw [10] (fun iv wr => ∃ (i : Nat) (on : Bool), i ≤ lt ∧ iv = .int .i64 (i : Int) ∧ GSt wr g c 16 i w.heap.size on ∧ Turn (fun _ => False) w wr) (fun iv _ => lt - (intOf iv).toNat)
  case atStart => exact ⟨0, true, by omega, rfl, G7.out, T7.out⟩
  case round =>
    obtain ⟨i, on, hi, rfl, hg, ht⟩ := hrel
    have HGS := Lib.hid hg
    have HT := Lib.hid ht
    clear hg ht
    obtain ⟨W5, eW5⟩ : ∃ W5, W5 = wr := ⟨_, rfl⟩
    subst eW5
    have ON := Lib.hid HGS.out.on
    by_cases hil : i < lt
    rotate_left 1
    · have dl : decide ((i : Int) < (lt : Int)) = false := decide_eq_false (by omega)
      have dl' : decide (i < lt) = false := decide_eq_false hil
      cases on with
      | true =>
        go_wp2_with (first
          | (go_at_call 29; refine ON.out.mono ?_; rintro r w2 ⟨rfl, hw⟩; rw [hw]; clear hw)
          | (go_at_call 9; refine stop ?_))
        unfold Stop
        refine (AW.out W5 HT.out).mono ?_
        rintro r w6 ⟨rfl, t6⟩
        have T6 := Lib.hid (HT.out.trans t6 (fun _ _ h => h))
        clear t6
        go_wp2
        go_ret
        exact ⟨rfl, T6.out⟩
      | false =>
        have SY := Lib.hid (gsync_off W5 g c 16 i w.heap.size HGS.out)
        have TN := Lib.hid (kturn_gone c none 0 0 W5 (gbad_off W5 g c 16 i w.heap.size HGS.out))
        have KN := Lib.hid (kkeep_gone c none 0 0 W5 (gbad_off W5 g c 16 i w.heap.size HGS.out))
        go_wp2_with (first
          | (go_at_call 29; refine ON.out.mono ?_; rintro r w2 ⟨rfl, hw⟩; rw [hw]; clear hw)
          | (go_at_call 16; refine SY.out.mono ?_; rintro r w2 ⟨rfl, hw⟩; rw [hw]; clear hw)
          | (go_at_call 18; refine TN.out.mono ?_; rintro r w2 ⟨rfl, hw⟩; rw [hw]; clear hw)
          | (go_at_call 15; refine KN.out.mono ?_; rintro r w2 ⟨rfl, hw⟩; rw [hw]; clear hw)
          | (go_at_call 9; refine stop ?_))
        unfold Stop
        refine (AW.out W5 HT.out).mono ?_
        rintro r w6 ⟨rfl, t6⟩
        have T6 := Lib.hid (HT.out.trans t6 (fun _ _ h => h))
        clear t6
        go_wp2
        go_ret
        exact ⟨rfl, T6.out⟩
    have HIL := Lib.hid hil
    have dl : decide ((i : Int) < (lt : Int)) = true := decide_eq_true (by omega)
    have dl' : decide (i < lt) = true := decide_eq_true hil
    have hit : i < ts.length := by rw [← HLT.out]; exact hil
    obtain ⟨ad, rfl, hadb, hadc⟩ := HTS.out i (bov ts[i]) (by rw [List.getElem?_map, List.getElem?_eq_getElem hit]; rfl)
    have hcell := HT.out.cell hadc (fun h => h)
    obtain ⟨tb, htb⟩ : ∃ b, b = ts[i] := ⟨_, rfl⟩
    have hcell' : W5.cell? (ad.add i) = some (.bool tb) := by rw [htb]; exact hcell
    have SBB := Lib.hid (show SlN W5 (fun j => w.heap.size ≤ j) A (b.map bv) from fun j u hu => by
      obtain ⟨ad', e, hb, hc⟩ := HBS.out j u hu
      exact ⟨ad', e, fun h => by omega, HT.out.cell hc (fun h => h)⟩)
    have KU := gkeep_any W5 g c 16 i w.heap.size on A c0 b HGS.out (by omega) (by omega) SBB.out HAC.out.1 HAC.out.2 (by rw [← HLB.out]; omega)
    have TU := gturn_any W5 g c 16 i w.heap.size on A c0 b HGS.out (by omega) (by omega) SBB.out HAC.out.1 HAC.out.2 (by rw [← HLB.out]; omega)
    rw [← HLB.out] at KU TU
    have KU := Lib.hid KU
    have TU := Lib.hid TU
    have hi30 : i < 30 := by omega
    have hwi : IntKind.i64.wrap ((i : Int) + 1) = (i : Int) + 1 := IntWalk.i64_in _ (by omega)
    clear hcell hadc htb hit
    cases tb with
    | true =>
      go_wp2_with (first
        | (go_at_call 29; refine ON.out.mono ?_; rintro r w2 ⟨rfl, hw⟩; rw [hw]; clear hw)
        | (go_at_call 18; refine stop ?_))
      unfold Stop
      refine TU.out.mono ?_
      rintro r w8 ⟨e, on', rfl, gs8, t8, hcs⟩
      have G8 := Lib.hid gs8
      have T8 := Lib.hid (show Turn (fun _ => False) w w8 from HT.out.trans t8 (fun j hj h => by have h : w.heap.size ≤ j := h; omega))
      have ON8 := Lib.hid gs8.on
      clear gs8 t8 KU TU hcell'
      rcases hcs with ⟨rfl, rfl, rfl | rfl⟩ | ⟨rfl, rfl⟩
      · go_wp2_with (go_at_call 29; refine ON8.out.mono ?_; rintro r w2 ⟨rfl, hw⟩; rw [hw]; clear hw)
        go_roundw
        case rel => exact ⟨i + 1, true, by have := HIL.out; omega, by go_num, G8.out, T8.out⟩
        case measure => simp [intOf]; have := HIL.out; omega
      · go_wp2_with (go_at_call 29; refine ON8.out.mono ?_; rintro r w2 ⟨rfl, hw⟩; rw [hw]; clear hw)
        go_roundw
        case rel => exact ⟨i + 1, true, by have := HIL.out; omega, by go_num, G8.out, T8.out⟩
        case measure => simp [intOf]; have := HIL.out; omega
      · cases on <;>
        · go_wp2_with (go_at_call 29; refine ON8.out.mono ?_; rintro r w2 ⟨rfl, hw⟩; rw [hw]; clear hw)
          go_roundw
          case rel => exact ⟨i + 1, false, by have := HIL.out; omega, by go_num, G8.out, T8.out⟩
          case measure => simp [intOf]; have := HIL.out; omega
    | false =>
      go_wp2_with (first
        | (go_at_call 29; refine ON.out.mono ?_; rintro r w2 ⟨rfl, hw⟩; rw [hw]; clear hw)
        | (go_at_call 15; refine stop ?_))
      unfold Stop
      refine KU.out.mono ?_
      rintro r w8 ⟨e, on', rfl, gs8, t8, hcs⟩
      have G8 := Lib.hid gs8
      have T8 := Lib.hid (show Turn (fun _ => False) w w8 from HT.out.trans t8 (fun j hj h => by have h : w.heap.size ≤ j := h; omega))
      have ON8 := Lib.hid gs8.on
      clear gs8 t8 KU TU hcell'
      rcases hcs with ⟨rfl, rfl, rfl | rfl⟩ | ⟨rfl, rfl⟩
      · go_wp2_with (go_at_call 29; refine ON8.out.mono ?_; rintro r w2 ⟨rfl, hw⟩; rw [hw]; clear hw)
        go_roundw
        case rel => exact ⟨i + 1, true, by have := HIL.out; omega, by go_num, G8.out, T8.out⟩
        case measure => simp [intOf]; have := HIL.out; omega
      · go_wp2_with (go_at_call 29; refine ON8.out.mono ?_; rintro r w2 ⟨rfl, hw⟩; rw [hw]; clear hw)
        go_roundw
        case rel => exact ⟨i + 1, true, by have := HIL.out; omega, by go_num, G8.out, T8.out⟩
        case measure => simp [intOf]; have := HIL.out; omega
      · cases on <;>
        · go_wp2_with (go_at_call 29; refine ON8.out.mono ?_; rintro r w2 ⟨rfl, hw⟩; rw [hw]; clear hw)
          go_roundw
          case rel => exact ⟨i + 1, false, by have := HIL.out; omega, by go_num, G8.out, T8.out⟩
          case measure => simp [intOf]; have := HIL.out; omega
theorem gone_law (a0 : Nat) (A1 : Option Addr) (c1 : Nat) (l1 : List B8) (A2 : Option Addr) (c2 : Nat) (l2 : List Bool) (W : World) (b0 : a0 < 256) (s1 : Sl W W.heap.size A1 (l1.map bv)) (m1 : l1.length ≤ maxLen) (hA1 : A1 = none → c1 = 0) (hc1 : l1.length ≤ c1) (s2 : Sl W W.heap.size A2 (l2.map bov)) (m2 : l2.length ≤ maxLen) (hA2 : A2 = none → c2 = 0) (hc2 : l2.length ≤ c2) (hG : Glob W) :
    Calls Tryd.prog 7 #[.int .u8 (a0 : Int), .slice A1 l1.length c1, .slice A2 l2.length c2] W fun r w' => r = .returned (.bool true) ∧ Below W.heap.size W w' :=
  (chestGone_of a0 b0 A1 c1 l1 A2 c2 l2 W hG s1 hA1 hc1 s2 m2).mono fun _ _ h => to_below14 h
end Go.Proofs.YtfiopkehpcipdaaDoor
