/- Merged: The landed chest's lay: a head on a side where nothing else is. -/
import Derived.Test.YtajdcekkmikbcaaDoorM42
namespace Go.Proofs.YtajdcekkmikbcaaDoor
section
set_option linter.unusedVariables false
set_option linter.unusedSimpArgs false
open Go.RowKit
set_option maxRecDepth 100000
/-- A head laid on a stretch of m sectors from p on: the drum, and the error. -/
def layR (d : Dr) (p m t : Nat) (h : List B8) : Dr × Nat :=
  if (wipeR d p m).2 ≠ 0 then wipeR d p m
  else if (Scr.mk p (p + m) t 0 false).putE (wipeR d p m).1 h ≠ 0 then ((Scr.mk p (p + m) t 0 false).putD (wipeR d p m).1 h, (Scr.mk p (p + m) t 0 false).putE (wipeR d p m).1 h)
  else (((Scr.mk p (p + m) t 0 false).putD (wipeR d p m).1 h).sync, ((Scr.mk p (p + m) t 0 false).putD (wipeR d p m).1 h).syncE)
def LPost (g c n a t : Nat) (d : Dr) (hd : List B8) (D : Nat → Prop) (w : World) (r : Ending) (w' : World) : Prop :=
  ∃ D', (∀ j, D' j → Dn D w w' j) ∧ r = .returned (.int .i64 ((layR d (a * (n / 2)) (n / 2) t hd).2 : Int)) ∧
    (((layR d (a * (n / 2)) (n / 2) t hd).2 = 0 ∧ ∃ E', KAt w' g c n (layR d (a * (n / 2)) (n / 2) t hd).1 ⟨a, t, [hd], a * (n / 2) + secsOf (formV13 t 0 hd)⟩ D' E' ∧ (∀ j, E' j → j = c ∨ (w.heap.size ≤ j ∧ j < w'.heap.size)) ∧ Turn (fun j => D j ∨ j = c) w w')
    ∨ ((layR d (a * (n / 2)) (n / 2) t hd).2 ≠ 0 ∧ LD w' g n (layR d (a * (n / 2)) (n / 2) t hd).1 D' ∧ Turn D w w'))
theorem sync_W_le (d : Dr) : d.sync.W.length ≤ d.W.length := by
  unfold Dr.sync Dr.burn Dr.land
  (repeat' split) <;> simp
theorem wipeL_W (d0 : Dr) (p : Nat) : ∀ (r i : Nat) (d : Dr), (wipeL d0 d p i r).1.W.length ≤ d.W.length + r
  | 0, i, d => Nat.le_refl _
  | r + 1, i, d => by
    rw [wipeL]
    split
    · have := wipeL_W d0 p r (i + 1) d; omega
    · split
      · have := write_W_le d ((p + i : Nat) : Int) (zeros 64)
        show (d.write _ _).W.length ≤ _
        omega
      · have h1 := write_W_le d ((p + i : Nat) : Int) (zeros 64)
        have := wipeL_W d0 p r (i + 1) (d.write ((p + i : Nat) : Int) (zeros 64)); omega
theorem wipeR_W (d : Dr) (p m : Nat) : (wipeR d p m).1.W.length ≤ d.W.length + m := by
  have h := wipeL_W d p m 0 d
  unfold wipeR
  split
  · exact h
  · split
    · have := sync_W_le (wipeL d d p 0 m).1
      show (wipeL d d p 0 m).1.sync.W.length ≤ _
      omega
    · exact h
set_option maxHeartbeats 16000000 in
theorem lay0_any (w : World) (g c n t : Nat) (d : Dr) (D : Nat → Prop) (PS : Value) (a0 t0 : Int) (H0 N0 : Value) (A : Option Addr) (cb : Nat) (hd : List B8) (ld : LD w g n d D) (hoff : d.off = false) (hn : n ≤ 8192) (bx : KBox w c PS (.pointer (some ⟨g, 0, none⟩)) ((n / 2 : Nat) : Int) a0 t0 H0 N0) (hcD : ¬ D c) (hc2 : 2 ≤ c) (ht : t ≤ mostS) (hW : d.W.length + n / 2 + 1024 < 10000)
    (hs : SlN w (fun j => D j ∨ j = c) A (hd.map bv)) (hA : A = none → cb = 0) (hc : hd.length ≤ cb) (hlen : hd.length ≤ 900000) :
    Calls Tryd.prog 44 #[.pointer (some ⟨c, 0, none⟩), .int .i64 0, .int .i64 (t : Int), .slice A hd.length cb] w (LPost g c n 0 t d hd D w) := by
  obtain ⟨hf, hhf⟩ : ∃ x, x = n / 2 := ⟨_, rfl⟩
  have hp0 : 0 * (n / 2) = 0 := by omega
  rw [← hhf] at bx hW
  have hQ : LPost g c n 0 t d hd D w = fun r w' => ∃ D', (∀ j, D' j → Dn D w w' j) ∧ r = .returned (.int .i64 ((layR d 0 hf t hd).2 : Int)) ∧
    (((layR d 0 hf t hd).2 = 0 ∧ ∃ E', KAt w' g c n (layR d 0 hf t hd).1 ⟨0, t, [hd], 0 + secsOf (formV13 t 0 hd)⟩ D' E' ∧ (∀ j, E' j → j = c ∨ (w.heap.size ≤ j ∧ j < w'.heap.size)) ∧ Turn (fun j => D j ∨ j = c) w w')
    ∨ ((layR d 0 hf t hd).2 ≠ 0 ∧ LD w' g n (layR d 0 hf t hd).1 D' ∧ Turn D w w')) := by
    funext r w'
    unfold LPost
    rw [hp0, ← hhf]
  obtain ⟨w1, hw1⟩ : ∃ w1, w1 = w.alloc (.cells #[.int .i64 0, .int .i64 hf] 47) := ⟨_, rfl⟩
  obtain ⟨x, hx⟩ : ∃ x, x = w.heap.size := ⟨_, rfl⟩
  have t1 : Turn (fun _ => False) w w1 := by rw [hw1]; exact (Turn.refl _ _).alloc _
  have X1 := Lib.hid (show w1.heap[x]? = some (.cells #[.int .i64 0, .int .i64 hf] 47 (0, 0)) by rw [hw1, hx]; exact heap_alloc_new _ _)
  have B1 := Lib.hid (bx.turn t1 (fun h => h))
  have L1 := Lib.hid (ld.quiet t1)
  have HXW := Lib.hid (show w.heap.size ≤ x by omega)
  have HXD := Lib.hid (show ¬ D x from fun h => by have := ld.lt x h; omega)
  have HCW := Lib.hid bx.lt
  have HLT := Lib.hid ld.lt
  have BL := blankG_any w1.drew g n 0 hf t d D (L1.out.quiet ((Turn.refl _ _).drew)) hoff hn (by omega) ht (by omega)
  rw [show (((0 : Nat) : Int)) = 0 by rfl] at BL
  have T1 := Lib.hid t1
  have HS0 := Lib.hid hs
  have HSN := Lib.hid (hs.turn (N' := fun j => D j ∨ j = c ∨ w.heap.size ≤ j) t1.drew (fun _ h => h.elim) (fun j hj h => by rcases h with h | h | h; exact .inl h; exact .inr h; omega))
  have hwl := wipeR_W d 0 hf
  obtain ⟨⟨d1, e1⟩, hd1⟩ : ∃ y, y = wipeR d 0 hf := ⟨_, rfl⟩
  rw [← hd1] at BL hwl
  have HD1 := Lib.hid hd1
  have KS := Lib.hid (show (Tryd.prog.info? 47).map (·.size) = some 2 by kernel_rfl)
  have HR := Lib.hid (show w.rangeAt c 2 [.int .i64 0, .int .i64 hf] from by
    obtain ⟨-, -, c2, c3, c4, c5, -⟩ := bx.cells
    intro j v hj
    match j, hj with
    | 0, hj => injection hj with hj; subst hj; exact c2
    | 1, hj => injection hj with hj; subst hj; exact c3)
  have HQ := Lib.hid hQ
  have HAC := Lib.hid (And.intro hA hc)
  have HHF := Lib.hid hhf
  have HW := Lib.hid hW
  have HWL := Lib.hid hwl
  have HT := Lib.hid ht
  have HLEN := Lib.hid hlen
  have HC2 := Lib.hid hc2
  obtain ⟨lb, hlb⟩ : ∃ l, l = hd.length := ⟨_, rfl⟩
  rw [← hlb]
  have HLB := Lib.hid hlb
  clear hlb hQ t1 ld bx hs hA hc hd1 hhf hp0 hW hwl ht
  by_cases he1 : e1 = 0
  rotate_left 1
  · have E1 := Lib.hid he1
    have BLD := Lib.hid (BL.mono (R' := fun r w' => ∃ D', LD w' g n d1 D' ∧ (∀ k, D' k → Dn D w1.drew w' k) ∧ Turn D w1.drew w' ∧ r = .returned (.tuple #[.pointer none, .int .i64 (e1 : Int)])) (fun r w' h => by
      obtain ⟨D', h1, h2, h3, h4⟩ := h
      rcases h4 with ⟨h4, -⟩ | ⟨-, h4⟩
      · exact absurd h4 E1.out
      · exact ⟨D', h1, h2, h3, h4⟩))
    have d0 : ((e1 : Int) != 0) = true := by rw [bne_iff_ne]; omega
    clear he1
    go_enter Tryd.func44, Tryd.ntmps44
    go_upto_region 2 with ((refine wpList_load_mid rfl 47 _ rfl c 2 rfl [.int .i64 0, .int .i64 hf] _ HR.out Tryd.underlying47 rfl KS.out ?_))
    change Code.wp _ _ _ _ (w.alloc (.cells #[.int .i64 0, .int .i64 hf] 47))
    rw [← hw1, ← hx]
    clear hw1 hx HR
    obtain ⟨-, q1, -⟩ := B1.out.cells
    have x0 : w1.cell? ⟨x, 0, none⟩ = some (.int .i64 0) := by rw [cell_of_row _ _ _ _ _ _ X1.out]; rfl
    have x1 : w1.cell? ⟨x, 1, none⟩ = some (.int .i64 hf) := by rw [cell_of_row _ _ _ _ _ _ X1.out]; rfl
    clear BL
    go_region_held3 (fun w' => w'.cell? ⟨c, 1, none⟩ = some (.pointer (some ⟨g, 0, none⟩)) ∧ w'.cell? ⟨x, 0, none⟩ = some (.int .i64 0) ∧ w'.cell? ⟨x, 1, none⟩ = some (.int .i64 hf))
      (first | exact ⟨q1, x0, x1⟩ | exact ⟨k1, y0, y1⟩)
      (first
        | (go_at_call 65; refine BLD.out.mono ?_; clear BLD; rintro r w3 ⟨D3, l3, hD3, t3, rfl⟩; have L3 := Lib.hid l3; have HD3 := Lib.hid hD3; have T3 := Lib.hid t3; have k1 := t3.cell (show w1.drew.cell? _ = _ from q1) hcD; have y0 := t3.cell (show w1.drew.cell? _ = _ from x0) HXD.out; have y1 := t3.cell (show w1.drew.cell? _ = _ from x1) HXD.out; clear l3 hD3 t3))
    have TT := Lib.hid (show Turn D w w3 from ((T1.out.drew).mono (fun _ _ h => h.elim)).trans T3.out (fun _ _ h => h))
    have DD := Lib.hid (show ∀ k, D3 k → Dn D w w3 k from fun k hk => (HD3.out k hk).elim .inl (fun h => .inr ⟨Nat.le_trans T1.out.size h.1, h.2⟩))
    have LR := Lib.hid (show layR d 0 hf t hd = (d1, e1) by unfold layR; rw [← HD1.out, if_pos E1.out])
    clear k1 y0 y1 q1 x0 x1
    go_wp2
    go_ret
    rw [HQ.out, LR.out]
    exact ⟨D3, DD.out, rfl, .inr ⟨E1.out, L3.out, TT.out⟩⟩
  have BLD := Lib.hid (BL.mono (R' := fun r w' => ∃ s D' E, r = .returned (.tuple #[.pointer (some ⟨s, 0, none⟩), .int .i64 0]) ∧ Ats SBp w' g s n d1 ⟨0, 0 + hf, t, 0, false⟩ D' E ∧ (∀ k, D' k → Dn D w1.drew w' k) ∧ (∀ k, E k → w1.drew.heap.size ≤ k) ∧ Turn D w1.drew w') (fun r w' h => by
      obtain ⟨D', h1, h2, h3, h4⟩ := h
      rcases h4 with ⟨-, s, E, h4, h5, h6⟩ | ⟨h4, -⟩
      · exact ⟨s, D', E, h4, h5, h2, h6, h3⟩
      · exact absurd he1 h4))
  have E1 := Lib.hid he1
  clear he1 BL
  obtain ⟨sc, hsc⟩ : ∃ y, y = Scr.mk 0 (0 + hf) t 0 false := ⟨_, rfl⟩
  rw [← hsc] at BLD
  have hLR : layR d 0 hf t hd = if sc.putE d1 hd ≠ 0 then (sc.putD d1 hd, sc.putE d1 hd) else ((sc.putD d1 hd).sync, (sc.putD d1 hd).syncE) := by
    unfold layR; rw [← HD1.out, if_neg (by show ¬ e1 ≠ 0; rw [E1.out]; simp), ← hsc]
  have HLR := Lib.hid hLR
  have HSC := Lib.hid hsc
  clear hLR hsc
  go_enter Tryd.func44, Tryd.ntmps44
  go_upto_region 2 with ((refine wpList_load_mid rfl 47 _ rfl c 2 rfl [.int .i64 0, .int .i64 hf] _ HR.out Tryd.underlying47 rfl KS.out ?_))
  change Code.wp _ _ _ _ (w.alloc (.cells #[.int .i64 0, .int .i64 hf] 47))
  rw [← hw1, ← hx]
  clear hw1 hx HR
  obtain ⟨-, q1, -⟩ := B1.out.cells
  have x0 : w1.cell? ⟨x, 0, none⟩ = some (.int .i64 0) := by rw [cell_of_row _ _ _ _ _ _ X1.out]; rfl
  have x1 : w1.cell? ⟨x, 1, none⟩ = some (.int .i64 hf) := by rw [cell_of_row _ _ _ _ _ _ X1.out]; rfl
  go_region_held3 (fun w' => w'.cell? ⟨c, 1, none⟩ = some (.pointer (some ⟨g, 0, none⟩)) ∧ w'.cell? ⟨x, 0, none⟩ = some (.int .i64 0) ∧ w'.cell? ⟨x, 1, none⟩ = some (.int .i64 hf))
    (first | exact ⟨q1, x0, x1⟩ | exact ⟨k1, y0, y1⟩)
    (first
      | (go_at_call 65; refine BLD.out.mono ?_; clear BLD; rintro r w3 ⟨s, D3, E3, rfl, at3, hD3, hE3, t3⟩; have AT3 := Lib.hid at3; have HD3 := Lib.hid hD3; have HE3 := Lib.hid hE3; have T3 := Lib.hid t3; have k1 := t3.cell (show w1.drew.cell? _ = _ from q1) hcD; have y0 := t3.cell (show w1.drew.cell? _ = _ from x0) HXD.out; have y1 := t3.cell (show w1.drew.cell? _ = _ from x1) HXD.out; clear at3 hD3 hE3 t3))
  clear k1 y0 y1 q1 x0 x1
  have T13 := Lib.hid (show Turn D w w3 from ((T1.out.drew).mono (fun _ _ h => h.elim)).trans T3.out (fun _ _ h => h))
  have DD3 := Lib.hid (show ∀ k, D3 k → Dn D w w3 k from fun k hk => (HD3.out k hk).elim .inl (fun h => .inr ⟨Nat.le_trans T1.out.size h.1, h.2⟩))
  have HE3' := Lib.hid (show ∀ k, E3 k ↔ k = s from AT3.out.sb.2.1)
  have hsW : w.heap.size ≤ s := Nat.le_trans T1.out.size (HE3.out s ((HE3'.out s).2 rfl))
  have hcs : c ≠ s := by have := HCW.out; omega
  have B3 := Lib.hid (show KBox w3 c PS (.pointer (some ⟨g, 0, none⟩)) hf a0 t0 H0 N0 from KBox.turn (w := w1.drew) B1.out T3.out hcD)
  have NIN3 := Lib.hid (show ∀ j, j < w1.heap.size → (D3 j ∨ E3 j) → (D j ∨ j = c ∨ w.heap.size ≤ j) from fun j hj h => by
    rcases h with h | h
    · exact (HD3.out j h).elim .inl (fun h => by have : w1.heap.size ≤ j := h.1; omega)
    · have : w1.heap.size ≤ j := HE3.out j h; omega)
  have PU := Lib.hid (lput_any w3 g s n d1 sc D3 E3 A cb hd AT3.out hn (fun _ => by rw [HSC.out]; exact ⟨HT.out, by show 0 ≤ 0 + hf; omega, by show 0 + hf ≤ n; have := HHF.out; omega, by show 0 ≤ mostS; unfold mostS; omega⟩) (HSN.out.turn T3.out (fun j h => .inl h) NIN3.out) HAC.out.1 HAC.out.2 HLEN.out (by have := HW.out; have h9 : d1.W.length ≤ d.W.length + hf := HWL.out; omega))
  rw [← HLB.out] at PU
  obtain ⟨PE, hPE⟩ : ∃ y, y = sc.putE d1 hd := ⟨_, rfl⟩
  obtain ⟨PD, hPD⟩ : ∃ y, y = sc.putD d1 hd := ⟨_, rfl⟩
  rw [← hPE, ← hPD] at PU HLR
  have HS1 := Lib.hid (show PE = 0 → (∀ s', sc.PutS d1 hd s' → s' = ⟨0 + secsOf (formV13 t 0 hd), 0 + hf, t, 1, false⟩) ∧ 0 + secsOf (formV13 t 0 hd) ≤ 0 + hf from fun h0 => by
    have hp0 : sc.pre hd = 0 := by
      by_cases hq : sc.pre hd = 0
      · exact hq
      · have : sc.putE d1 hd = sc.pre hd := by unfold Scr.putE; rw [if_pos hq]
        omega
    refine ⟨fun s' hp => ?_, ?_⟩
    · unfold Scr.PutS at hp
      rw [if_neg (by rw [hp0]; simp)] at hp
      have ha : (sc.all d1 hd).2 = 0 := by
        have h1 : sc.putE d1 hd = (sc.all d1 hd).2 := by unfold Scr.putE; rw [if_neg (by rw [hp0]; simp)]
        rw [← h1, ← hPE, h0]
      rw [if_pos ha] at hp
      rw [hp, HSC.out]
      rfl
    · unfold Scr.pre at hp0
      split at hp0
      · cases hp0
      · split at hp0
        · rename_i h2; exact absurd hp0 h2
        · split at hp0
          · cases hp0
          · rename_i h3
            rw [HSC.out] at h3
            have h3 : ¬ 0 + hf < 0 + secsOf (formV13 t 0 hd) := h3
            omega)
  clear hPE hPD
  go_wp2_with (go_at_call 39; refine stop ?_)
  unfold Stop
  refine PU.out.mono ?_
  rintro r w4 ⟨D4, sc4, rfl, at4, ps4, hD4, t4⟩
  have AT4 := Lib.hid at4
  have PS4 := Lib.hid ps4
  have DD4 := Lib.hid (dn_trans DD3.out hD4 T13.out.size t4.size)
  have T14 := Lib.hid (show Turn D w w4 from T13.out.trans t4 (fun k hk h => h.elim (fun h => (DD3.out k h).elim id (fun h => by have := h.1; omega)) (fun h => by have := (HE3'.out k).1 h; omega)))
  have hc3 : ¬ (D3 c ∨ E3 c) := fun h => h.elim (fun h => (DD3.out c h).elim hcD (fun h => by have := h.1; have := HCW.out; omega)) (fun h => hcs ((HE3'.out c).1 h))
  have B4 := Lib.hid (B3.out.turn t4 hc3)
  clear PU at4 ps4 hD4 t4 HSN NIN3
  by_cases h0 : PE = 0
  rotate_left 1
  · have d0 : ((PE : Int) != 0) = true := by rw [bne_iff_ne]; omega
    have H0 := Lib.hid h0
    clear h0
    go_wp2
    go_ret
    rw [HQ.out, HLR.out, if_pos H0.out]
    exact ⟨D4, DD4.out, rfl, .inr ⟨H0.out, AT4.out.ld, T14.out⟩⟩
  have d0 : ((PE : Int) != 0) = false := by rw [bne_eq_false_iff_eq]; omega
  have H0 := Lib.hid h0
  have HLR2 := Lib.hid (HLR.out.trans (if_neg (by rw [h0]; simp)))
  obtain ⟨hs1, hroom⟩ := HS1.out h0
  have HRM := Lib.hid hroom
  have AT5 := AT4.out
  rw [hs1 _ PS4.out] at AT5
  have AT4 := Lib.hid AT5
  have SY := lsyncP_any w4 g s n PD _ D4 E3 AT4.out
  have hse : (Scr.mk (0 + secsOf (formV13 t 0 hd)) (0 + hf) t 1 false).syncE PD = PD.syncE := by unfold Scr.syncE; rw [if_neg (by simp)]
  have hsd : (Scr.mk (0 + secsOf (formV13 t 0 hd)) (0 + hf) t 1 false).syncD PD = PD.sync := by unfold Scr.syncD; rw [if_neg (by simp)]
  rw [hse, hsd] at SY
  have HSS := Lib.hid (show ∀ s', PD.syncE = 0 → (Scr.mk (0 + secsOf (formV13 t 0 hd)) (0 + hf) t 1 false).SyncS PD s' → s' = ⟨0 + secsOf (formV13 t 0 hd), 0 + hf, t, 1, false⟩ from fun s' h0 hp => by unfold Scr.SyncS at hp; rw [hse, if_pos h0] at hp; exact hp)
  have SY := Lib.hid SY
  obtain ⟨er, her⟩ : ∃ y, y = PD.syncE := ⟨_, rfl⟩
  rw [← her] at SY HSS HLR2
  clear h0 hs1 hroom AT5 PS4 HS1 HLR hse hsd her
  go_wp2_with (go_at_call 42; refine stop ?_)
  unfold Stop
  refine SY.out.mono ?_
  rintro r w5 ⟨D5, sc5, rfl, at5, ps5, hD5, t5⟩
  have AT5 := Lib.hid at5
  have PS5 := Lib.hid ps5
  have DD5 := Lib.hid (dn_trans DD4.out hD5 T14.out.size t5.size)
  have T15 := Lib.hid (show Turn D w w5 from T14.out.trans t5 (fun k hk h => h.elim (fun h => (DD4.out k h).elim id (fun h => by have := h.1; omega)) (fun h => by have := (HE3'.out k).1 h; omega)))
  have hc4 : ¬ (D4 c ∨ E3 c) := fun h => h.elim (fun h => (DD4.out c h).elim hcD (fun h => by have := h.1; have := HCW.out; omega)) (fun h => hcs ((HE3'.out c).1 h))
  have B5 := Lib.hid (B4.out.turn t5 hc4)
  clear SY at5 ps5 hD5 t5
  by_cases h0 : er = 0
  rotate_left 1
  · have d1' : ((er : Int) != 0) = true := by rw [bne_iff_ne]; omega
    have H1 := Lib.hid h0
    clear h0
    go_wp2
    go_ret
    rw [HQ.out, HLR2.out]
    exact ⟨D5, DD5.out, rfl, .inr ⟨H1.out, AT5.out.ld, T15.out⟩⟩
  have d1' : ((er : Int) != 0) = false := by rw [bne_eq_false_iff_eq]; omega
  have H1 := Lib.hid h0
  have SB5 := AT5.out.sb
  rw [HSS.out _ h0 PS5.out] at SB5
  have SB5 := Lib.hid SB5
  have hD5c : ¬ D5 c := fun h => (DD5.out c h).elim hcD (fun h => by have := h.1; have := HCW.out; omega)
  have hD5s : ¬ D5 s := AT5.out.dj s ((HE3'.out s).2 rfl)
  have hs5 := AT5.out.lt s ((HE3'.out s).2 rfl)
  have HS5 := Lib.hid hs5
  have DSN := Lib.hid (show ∀ j, j < w.heap.size → (D5 j ∨ j = c) → (D j ∨ j = c) from fun j hj h => h.elim (fun h => (DD5.out j h).elim .inl (fun h => by have := h.1; omega)) .inr)
  have HSW := Lib.hid (HS0.out.turn (N' := fun j => D5 j ∨ j = c) T15.out (fun _ h => .inl h) DSN.out)
  clear h0 HSS PS5 hs5
  obtain ⟨q0, -, -, -, -, -, q6, q7, q8, q9⟩ := B5.out.cells
  have z0 := B5.out.frozen 0
  have z6 := B5.out.frozen 6
  have z7 := B5.out.frozen 7
  go_upto_region 12 with fail
  have b6 := ((B5.out.set0 (.pointer (some ⟨s, 0, none⟩))).set6 0).set7 (t : Int)
  have t6 : Turn (fun k => k = c) w5 (((w5.setCell ⟨c, 0, none⟩ (.pointer (some ⟨s, 0, none⟩))).setCell ⟨c, 6, none⟩ (.int .i64 0)).setCell ⟨c, 7, none⟩ (.int .i64 (t : Int))) :=
    (((Turn.refl (fun k => k = c) w5).setCell ⟨c, 0, none⟩ _ (fun _ => rfl)).setCell ⟨c, 6, none⟩ _ (fun _ => rfl)).setCell ⟨c, 7, none⟩ _ (fun _ => rfl)
  obtain ⟨w6, hw6⟩ : ∃ w6, w6 = (((w5.setCell ⟨c, 0, none⟩ (.pointer (some ⟨s, 0, none⟩))).setCell ⟨c, 6, none⟩ (.int .i64 0)).setCell ⟨c, 7, none⟩ (.int .i64 (t : Int))) := ⟨_, rfl⟩
  change Code.wp _ _ _ _ (((w5.setCell ⟨c, 0, none⟩ (.pointer (some ⟨s, 0, none⟩))).setCell ⟨c, 6, none⟩ (.int .i64 0)).setCell ⟨c, 7, none⟩ (.int .i64 (t : Int)))
  rw [← hw6] at b6 t6 ⊢
  have B6 := Lib.hid b6
  have T6 := Lib.hid t6
  have CL := clone_at A cb lb (fun j => D5 j ∨ j = c) hd w6 (HSW.out.turn t6 (fun _ h => .inr h) (fun _ _ h => h)) HLB.out.symm HAC.out.1 (by rw [HLB.out]; exact HAC.out.2) (by rw [HLB.out]; have := HLEN.out; omega)
  have CL := Lib.hid CL
  clear hw6 b6 t6 q0 q6 q7 q8 q9 z0 z6 z7
  obtain ⟨-, -, -, -, -, -, -, -, q8, q9⟩ := B6.out.cells
  go_wp2_with (go_at_call 40; refine stop ?_)
  unfold Stop
  refine CL.out.mono ?_
  rintro r w7 ⟨v, rfl, o7, t7⟩
  obtain ⟨Av, cv, rfl, -, -, hcv, hav⟩ := own_sl o7
  have O7 := Lib.hid o7
  have AV := Lib.hid (And.intro hcv hav)
  have T7 := Lib.hid t7
  have B7 := Lib.hid (B6.out.turn t7 (fun h => h))
  clear CL o7 t7 q8 q9 hcv hav
  obtain ⟨-, -, -, -, -, -, -, -, q8, q9⟩ := B7.out.cells
  have z8 := B7.out.frozen 8
  have z9 := B7.out.frozen 9
  go_wp2
  go_ret
  have TC : Turn (fun k => k = c) w7 ((w7.setCell ⟨c, 8, none⟩ (.slice Av lb cv)).setCell ⟨c, 9, none⟩ (.slice none 0 0)) := ((Turn.refl (fun k => k = c) w7).setCell ⟨c, 8, none⟩ _ (fun _ => rfl)).setCell ⟨c, 9, none⟩ _ (fun _ => rfl)
  have TZ : Turn (fun k => k = c) w5 ((w7.setCell ⟨c, 8, none⟩ (.slice Av lb cv)).setCell ⟨c, 9, none⟩ (.slice none 0 0)) := (T6.out.trans T7.out (fun _ _ h => h.elim)).trans TC (fun _ _ h => h)
  have hsz := TZ.size
  have hsz6 := T6.out.size
  rw [HQ.out, HLR2.out]
  refine ⟨D5, fun j hj => (DD5.out j hj).elim .inl (fun h => .inr ⟨h.1, Nat.lt_of_lt_of_le h.2 hsz⟩), (by rw [H1.out]; rfl), .inl ⟨H1.out, fun j => j = s ∨ j = c, ⟨AT5.out.ld.keep TZ (fun j hj e => by have e : j = c := e; subst e; exact hD5c hj) (fun j e => by have e : j = c := e; subst e; exact HC2.out), ⟨by show 0 ≤ 1; omega, HT.out, ?_, Nat.le_refl _, by show 1 ≤ 1000000; omega, fun y hy => ?_⟩, ⟨s, hd, Av, cv, _, 0, [], ?_, ?_, rfl, ?_, AV.out.2, ?_, ⟨rfl, .inl ⟨rfl, rfl⟩⟩, ⟨rfl, fun i y hy => by cases hy⟩, hcs.symm, .inl rfl, fun j hj => by cases hj⟩, .inr rfl, ?_, ?_, ?_⟩, ?_, ?_⟩⟩
  · show 0 + secsOf (formV13 t 0 hd) ≤ 0 * (n / 2) + n / 2
    rw [← HHF.out]; have := HRM.out; omega
  · have hy : y ∈ [hd] := hy
    simp at hy; rw [hy]; exact HLEN.out
  · have h := (B7.out.set8 (.slice Av lb cv)).set9 (.slice none 0 0)
    rw [HLB.out, HHF.out] at h
    rw [HLB.out]
    exact h
  · have h := sbp_keep SB5.out TZ (fun k hk e => by have h1 := (HE3'.out k).1 hk; have e : k = c := e; omega)
    obtain ⟨h1, -, h3⟩ := h
    refine ⟨h1, fun k => Iff.rfl, ?_⟩
    show ∃ P tt nn p l, _
    have e : (Scr.mk (0 + secsOf (formV13 t 0 hd)) (0 + hf) t 1 false) = (Ck.mk 0 t [hd] (0 + secsOf (formV13 t 0 hd))).scr (n / 2) := by
      unfold Ck.scr Ck.fin
      show _ = Scr.mk (0 + secsOf (formV13 t 0 hd)) (0 * (n / 2) + n / 2) t 1 false
      rw [← HHF.out, show 0 * hf = 0 by omega]
    rw [← e]; exact h3
  · exact (own_sln O7.out (N := fun j => D5 j ∨ (j = s ∨ j = c)) (fun j h => by
      rcases h with h | h | h
      · have := AT5.out.ld.lt j h; omega
      · have := HS5.out; omega
      · have := B5.out.lt; omega)).turn TC (fun j e => .inr (.inr e)) (fun _ _ h => h)
  · rw [← HLB.out]; exact AV.out.1
  · intro j hj
    rcases hj with h | h
    · rw [h]; exact SB5.out.1
    · rw [h]; exact HC2.out
  · intro j hj
    rcases hj with h | h
    · rw [h]; exact hD5s
    · rw [h]; exact hD5c
  · intro j hj
    rcases hj with h | h
    · rw [h]; exact Nat.lt_of_lt_of_le HS5.out hsz
    · rw [h]; exact Nat.lt_of_lt_of_le B5.out.lt hsz
  · intro j hj
    rcases hj with h | h
    · refine .inr ⟨by omega, ?_⟩
      rw [h]; exact Nat.lt_of_lt_of_le HS5.out hsz
    · exact .inl h
  · exact (T15.out.mono (fun _ _ h => .inl h)).trans TZ (fun _ _ h => .inr h)
set_option maxHeartbeats 16000000 in
theorem lay1_any (w : World) (g c n t : Nat) (d : Dr) (D : Nat → Prop) (PS : Value) (a0 t0 : Int) (H0 N0 : Value) (A : Option Addr) (cb : Nat) (hd : List B8) (ld : LD w g n d D) (hoff : d.off = false) (hn : n ≤ 8192) (bx : KBox w c PS (.pointer (some ⟨g, 0, none⟩)) ((n / 2 : Nat) : Int) a0 t0 H0 N0) (hcD : ¬ D c) (hc2 : 2 ≤ c) (ht : t ≤ mostS) (hW : d.W.length + n / 2 + 1024 < 10000)
    (hs : SlN w (fun j => D j ∨ j = c) A (hd.map bv)) (hA : A = none → cb = 0) (hc : hd.length ≤ cb) (hlen : hd.length ≤ 900000) :
    Calls Tryd.prog 44 #[.pointer (some ⟨c, 0, none⟩), .int .i64 1, .int .i64 (t : Int), .slice A hd.length cb] w (LPost g c n 1 t d hd D w) := by
  obtain ⟨hf, hhf⟩ : ∃ x, x = n / 2 := ⟨_, rfl⟩
  have hp0 : 1 * (n / 2) = hf := by omega
  rw [← hhf] at bx hW
  have hQ : LPost g c n 1 t d hd D w = fun r w' => ∃ D', (∀ j, D' j → Dn D w w' j) ∧ r = .returned (.int .i64 ((layR d hf hf t hd).2 : Int)) ∧
    (((layR d hf hf t hd).2 = 0 ∧ ∃ E', KAt w' g c n (layR d hf hf t hd).1 ⟨1, t, [hd], hf + secsOf (formV13 t 0 hd)⟩ D' E' ∧ (∀ j, E' j → j = c ∨ (w.heap.size ≤ j ∧ j < w'.heap.size)) ∧ Turn (fun j => D j ∨ j = c) w w')
    ∨ ((layR d hf hf t hd).2 ≠ 0 ∧ LD w' g n (layR d hf hf t hd).1 D' ∧ Turn D w w')) := by
    funext r w'
    unfold LPost
    rw [hp0, ← hhf]
  obtain ⟨w1, hw1⟩ : ∃ w1, w1 = w.alloc (.cells #[.int .i64 (hf : Int), .int .i64 hf] 47) := ⟨_, rfl⟩
  obtain ⟨x, hx⟩ : ∃ x, x = w.heap.size := ⟨_, rfl⟩
  have t1 : Turn (fun _ => False) w w1 := by rw [hw1]; exact (Turn.refl _ _).alloc _
  have X1 := Lib.hid (show w1.heap[x]? = some (.cells #[.int .i64 (hf : Int), .int .i64 hf] 47 (0, 0)) by rw [hw1, hx]; exact heap_alloc_new _ _)
  have B1 := Lib.hid (bx.turn t1 (fun h => h))
  have L1 := Lib.hid (ld.quiet t1)
  have HXW := Lib.hid (show w.heap.size ≤ x by omega)
  have HXD := Lib.hid (show ¬ D x from fun h => by have := ld.lt x h; omega)
  have HCW := Lib.hid bx.lt
  have HLT := Lib.hid ld.lt
  have BL := blankG_any w1.drew g n hf hf t d D (L1.out.quiet ((Turn.refl _ _).drew)) hoff hn (by omega) ht (by omega)
  rw [show (((hf : Nat) : Int)) = (hf : Int) by rfl] at BL
  have T1 := Lib.hid t1
  have HS0 := Lib.hid hs
  have HSN := Lib.hid (hs.turn (N' := fun j => D j ∨ j = c ∨ w.heap.size ≤ j) t1.drew (fun _ h => h.elim) (fun j hj h => by rcases h with h | h | h; exact .inl h; exact .inr h; omega))
  have hwl := wipeR_W d hf hf
  obtain ⟨⟨d1, e1⟩, hd1⟩ : ∃ y, y = wipeR d hf hf := ⟨_, rfl⟩
  rw [← hd1] at BL hwl
  have HD1 := Lib.hid hd1
  have KS := Lib.hid (show (Tryd.prog.info? 47).map (·.size) = some 2 by kernel_rfl)
  have HR := Lib.hid (show w.rangeAt c 4 [.int .i64 (hf : Int), .int .i64 hf] from by
    obtain ⟨-, -, c2, c3, c4, c5, -⟩ := bx.cells
    intro j v hj
    match j, hj with
    | 0, hj => injection hj with hj; subst hj; exact c4
    | 1, hj => injection hj with hj; subst hj; exact c5)
  have HQ := Lib.hid hQ
  have HAC := Lib.hid (And.intro hA hc)
  have HHF := Lib.hid hhf
  have HW := Lib.hid hW
  have HWL := Lib.hid hwl
  have HT := Lib.hid ht
  have HLEN := Lib.hid hlen
  have HC2 := Lib.hid hc2
  obtain ⟨lb, hlb⟩ : ∃ l, l = hd.length := ⟨_, rfl⟩
  rw [← hlb]
  have HLB := Lib.hid hlb
  clear hlb hQ t1 ld bx hs hA hc hd1 hhf hp0 hW hwl ht
  by_cases he1 : e1 = 0
  rotate_left 1
  · have E1 := Lib.hid he1
    have BLD := Lib.hid (BL.mono (R' := fun r w' => ∃ D', LD w' g n d1 D' ∧ (∀ k, D' k → Dn D w1.drew w' k) ∧ Turn D w1.drew w' ∧ r = .returned (.tuple #[.pointer none, .int .i64 (e1 : Int)])) (fun r w' h => by
      obtain ⟨D', h1, h2, h3, h4⟩ := h
      rcases h4 with ⟨h4, -⟩ | ⟨-, h4⟩
      · exact absurd h4 E1.out
      · exact ⟨D', h1, h2, h3, h4⟩))
    have d0 : ((e1 : Int) != 0) = true := by rw [bne_iff_ne]; omega
    clear he1
    go_enter Tryd.func44, Tryd.ntmps44
    go_upto_region 2 with ((refine wpList_load_mid rfl 47 _ rfl c 4 rfl [.int .i64 (hf : Int), .int .i64 hf] _ HR.out Tryd.underlying47 rfl KS.out ?_))
    change Code.wp _ _ _ _ (w.alloc (.cells #[.int .i64 (hf : Int), .int .i64 hf] 47))
    rw [← hw1, ← hx]
    clear hw1 hx HR
    obtain ⟨-, q1, -⟩ := B1.out.cells
    have x0 : w1.cell? ⟨x, 0, none⟩ = some (.int .i64 (hf : Int)) := by rw [cell_of_row _ _ _ _ _ _ X1.out]; rfl
    have x1 : w1.cell? ⟨x, 1, none⟩ = some (.int .i64 hf) := by rw [cell_of_row _ _ _ _ _ _ X1.out]; rfl
    clear BL
    go_region_held3 (fun w' => w'.cell? ⟨c, 1, none⟩ = some (.pointer (some ⟨g, 0, none⟩)) ∧ w'.cell? ⟨x, 0, none⟩ = some (.int .i64 (hf : Int)) ∧ w'.cell? ⟨x, 1, none⟩ = some (.int .i64 hf))
      (first | exact ⟨q1, x0, x1⟩ | exact ⟨k1, y0, y1⟩)
      (first
        | (go_at_call 65; refine BLD.out.mono ?_; clear BLD; rintro r w3 ⟨D3, l3, hD3, t3, rfl⟩; have L3 := Lib.hid l3; have HD3 := Lib.hid hD3; have T3 := Lib.hid t3; have k1 := t3.cell (show w1.drew.cell? _ = _ from q1) hcD; have y0 := t3.cell (show w1.drew.cell? _ = _ from x0) HXD.out; have y1 := t3.cell (show w1.drew.cell? _ = _ from x1) HXD.out; clear l3 hD3 t3))
    have TT := Lib.hid (show Turn D w w3 from ((T1.out.drew).mono (fun _ _ h => h.elim)).trans T3.out (fun _ _ h => h))
    have DD := Lib.hid (show ∀ k, D3 k → Dn D w w3 k from fun k hk => (HD3.out k hk).elim .inl (fun h => .inr ⟨Nat.le_trans T1.out.size h.1, h.2⟩))
    have LR := Lib.hid (show layR d hf hf t hd = (d1, e1) by unfold layR; rw [← HD1.out, if_pos E1.out])
    clear k1 y0 y1 q1 x0 x1
    go_wp2
    go_ret
    rw [HQ.out, LR.out]
    exact ⟨D3, DD.out, rfl, .inr ⟨E1.out, L3.out, TT.out⟩⟩
  have BLD := Lib.hid (BL.mono (R' := fun r w' => ∃ s D' E, r = .returned (.tuple #[.pointer (some ⟨s, 0, none⟩), .int .i64 0]) ∧ Ats SBp w' g s n d1 ⟨hf, hf + hf, t, 0, false⟩ D' E ∧ (∀ k, D' k → Dn D w1.drew w' k) ∧ (∀ k, E k → w1.drew.heap.size ≤ k) ∧ Turn D w1.drew w') (fun r w' h => by
      obtain ⟨D', h1, h2, h3, h4⟩ := h
      rcases h4 with ⟨-, s, E, h4, h5, h6⟩ | ⟨h4, -⟩
      · exact ⟨s, D', E, h4, h5, h2, h6, h3⟩
      · exact absurd he1 h4))
  have E1 := Lib.hid he1
  clear he1 BL
  obtain ⟨sc, hsc⟩ : ∃ y, y = Scr.mk hf (hf + hf) t 0 false := ⟨_, rfl⟩
  rw [← hsc] at BLD
  have hLR : layR d hf hf t hd = if sc.putE d1 hd ≠ 0 then (sc.putD d1 hd, sc.putE d1 hd) else ((sc.putD d1 hd).sync, (sc.putD d1 hd).syncE) := by
    unfold layR; rw [← HD1.out, if_neg (by show ¬ e1 ≠ 0; rw [E1.out]; simp), ← hsc]
  have HLR := Lib.hid hLR
  have HSC := Lib.hid hsc
  clear hLR hsc
  go_enter Tryd.func44, Tryd.ntmps44
  go_upto_region 2 with ((refine wpList_load_mid rfl 47 _ rfl c 4 rfl [.int .i64 (hf : Int), .int .i64 hf] _ HR.out Tryd.underlying47 rfl KS.out ?_))
  change Code.wp _ _ _ _ (w.alloc (.cells #[.int .i64 (hf : Int), .int .i64 hf] 47))
  rw [← hw1, ← hx]
  clear hw1 hx HR
  obtain ⟨-, q1, -⟩ := B1.out.cells
  have x0 : w1.cell? ⟨x, 0, none⟩ = some (.int .i64 (hf : Int)) := by rw [cell_of_row _ _ _ _ _ _ X1.out]; rfl
  have x1 : w1.cell? ⟨x, 1, none⟩ = some (.int .i64 hf) := by rw [cell_of_row _ _ _ _ _ _ X1.out]; rfl
  go_region_held3 (fun w' => w'.cell? ⟨c, 1, none⟩ = some (.pointer (some ⟨g, 0, none⟩)) ∧ w'.cell? ⟨x, 0, none⟩ = some (.int .i64 (hf : Int)) ∧ w'.cell? ⟨x, 1, none⟩ = some (.int .i64 hf))
    (first | exact ⟨q1, x0, x1⟩ | exact ⟨k1, y0, y1⟩)
    (first
      | (go_at_call 65; refine BLD.out.mono ?_; clear BLD; rintro r w3 ⟨s, D3, E3, rfl, at3, hD3, hE3, t3⟩; have AT3 := Lib.hid at3; have HD3 := Lib.hid hD3; have HE3 := Lib.hid hE3; have T3 := Lib.hid t3; have k1 := t3.cell (show w1.drew.cell? _ = _ from q1) hcD; have y0 := t3.cell (show w1.drew.cell? _ = _ from x0) HXD.out; have y1 := t3.cell (show w1.drew.cell? _ = _ from x1) HXD.out; clear at3 hD3 hE3 t3))
  clear k1 y0 y1 q1 x0 x1
  have T13 := Lib.hid (show Turn D w w3 from ((T1.out.drew).mono (fun _ _ h => h.elim)).trans T3.out (fun _ _ h => h))
  have DD3 := Lib.hid (show ∀ k, D3 k → Dn D w w3 k from fun k hk => (HD3.out k hk).elim .inl (fun h => .inr ⟨Nat.le_trans T1.out.size h.1, h.2⟩))
  have HE3' := Lib.hid (show ∀ k, E3 k ↔ k = s from AT3.out.sb.2.1)
  have hsW : w.heap.size ≤ s := Nat.le_trans T1.out.size (HE3.out s ((HE3'.out s).2 rfl))
  have hcs : c ≠ s := by have := HCW.out; omega
  have B3 := Lib.hid (show KBox w3 c PS (.pointer (some ⟨g, 0, none⟩)) hf a0 t0 H0 N0 from KBox.turn (w := w1.drew) B1.out T3.out hcD)
  have NIN3 := Lib.hid (show ∀ j, j < w1.heap.size → (D3 j ∨ E3 j) → (D j ∨ j = c ∨ w.heap.size ≤ j) from fun j hj h => by
    rcases h with h | h
    · exact (HD3.out j h).elim .inl (fun h => by have : w1.heap.size ≤ j := h.1; omega)
    · have : w1.heap.size ≤ j := HE3.out j h; omega)
  have PU := Lib.hid (lput_any w3 g s n d1 sc D3 E3 A cb hd AT3.out hn (fun _ => by rw [HSC.out]; exact ⟨HT.out, by show hf ≤ hf + hf; omega, by show hf + hf ≤ n; have := HHF.out; omega, by show 0 ≤ mostS; unfold mostS; omega⟩) (HSN.out.turn T3.out (fun j h => .inl h) NIN3.out) HAC.out.1 HAC.out.2 HLEN.out (by have := HW.out; have h9 : d1.W.length ≤ d.W.length + hf := HWL.out; omega))
  rw [← HLB.out] at PU
  obtain ⟨PE, hPE⟩ : ∃ y, y = sc.putE d1 hd := ⟨_, rfl⟩
  obtain ⟨PD, hPD⟩ : ∃ y, y = sc.putD d1 hd := ⟨_, rfl⟩
  rw [← hPE, ← hPD] at PU HLR
  have HS1 := Lib.hid (show PE = 0 → (∀ s', sc.PutS d1 hd s' → s' = ⟨hf + secsOf (formV13 t 0 hd), hf + hf, t, 1, false⟩) ∧ hf + secsOf (formV13 t 0 hd) ≤ hf + hf from fun h0 => by
    have hp0 : sc.pre hd = 0 := by
      by_cases hq : sc.pre hd = 0
      · exact hq
      · have : sc.putE d1 hd = sc.pre hd := by unfold Scr.putE; rw [if_pos hq]
        omega
    refine ⟨fun s' hp => ?_, ?_⟩
    · unfold Scr.PutS at hp
      rw [if_neg (by rw [hp0]; simp)] at hp
      have ha : (sc.all d1 hd).2 = 0 := by
        have h1 : sc.putE d1 hd = (sc.all d1 hd).2 := by unfold Scr.putE; rw [if_neg (by rw [hp0]; simp)]
        rw [← h1, ← hPE, h0]
      rw [if_pos ha] at hp
      rw [hp, HSC.out]
      rfl
    · unfold Scr.pre at hp0
      split at hp0
      · cases hp0
      · split at hp0
        · rename_i h2; exact absurd hp0 h2
        · split at hp0
          · cases hp0
          · rename_i h3
            rw [HSC.out] at h3
            have h3 : ¬ hf + hf < hf + secsOf (formV13 t 0 hd) := h3
            omega)
  clear hPE hPD
  go_wp2_with (go_at_call 39; refine stop ?_)
  unfold Stop
  refine PU.out.mono ?_
  rintro r w4 ⟨D4, sc4, rfl, at4, ps4, hD4, t4⟩
  have AT4 := Lib.hid at4
  have PS4 := Lib.hid ps4
  have DD4 := Lib.hid (dn_trans DD3.out hD4 T13.out.size t4.size)
  have T14 := Lib.hid (show Turn D w w4 from T13.out.trans t4 (fun k hk h => h.elim (fun h => (DD3.out k h).elim id (fun h => by have := h.1; omega)) (fun h => by have := (HE3'.out k).1 h; omega)))
  have hc3 : ¬ (D3 c ∨ E3 c) := fun h => h.elim (fun h => (DD3.out c h).elim hcD (fun h => by have := h.1; have := HCW.out; omega)) (fun h => hcs ((HE3'.out c).1 h))
  have B4 := Lib.hid (B3.out.turn t4 hc3)
  clear PU at4 ps4 hD4 t4 HSN NIN3
  by_cases h0 : PE = 0
  rotate_left 1
  · have d0 : ((PE : Int) != 0) = true := by rw [bne_iff_ne]; omega
    have H0 := Lib.hid h0
    clear h0
    go_wp2
    go_ret
    rw [HQ.out, HLR.out, if_pos H0.out]
    exact ⟨D4, DD4.out, rfl, .inr ⟨H0.out, AT4.out.ld, T14.out⟩⟩
  have d0 : ((PE : Int) != 0) = false := by rw [bne_eq_false_iff_eq]; omega
  have H0 := Lib.hid h0
  have HLR2 := Lib.hid (HLR.out.trans (if_neg (by rw [h0]; simp)))
  obtain ⟨hs1, hroom⟩ := HS1.out h0
  have HRM := Lib.hid hroom
  have AT5 := AT4.out
  rw [hs1 _ PS4.out] at AT5
  have AT4 := Lib.hid AT5
  have SY := lsyncP_any w4 g s n PD _ D4 E3 AT4.out
  have hse : (Scr.mk (hf + secsOf (formV13 t 0 hd)) (hf + hf) t 1 false).syncE PD = PD.syncE := by unfold Scr.syncE; rw [if_neg (by simp)]
  have hsd : (Scr.mk (hf + secsOf (formV13 t 0 hd)) (hf + hf) t 1 false).syncD PD = PD.sync := by unfold Scr.syncD; rw [if_neg (by simp)]
  rw [hse, hsd] at SY
  have HSS := Lib.hid (show ∀ s', PD.syncE = 0 → (Scr.mk (hf + secsOf (formV13 t 0 hd)) (hf + hf) t 1 false).SyncS PD s' → s' = ⟨hf + secsOf (formV13 t 0 hd), hf + hf, t, 1, false⟩ from fun s' h0 hp => by unfold Scr.SyncS at hp; rw [hse, if_pos h0] at hp; exact hp)
  have SY := Lib.hid SY
  obtain ⟨er, her⟩ : ∃ y, y = PD.syncE := ⟨_, rfl⟩
  rw [← her] at SY HSS HLR2
  clear h0 hs1 hroom AT5 PS4 HS1 HLR hse hsd her
  go_wp2_with (go_at_call 42; refine stop ?_)
  unfold Stop
  refine SY.out.mono ?_
  rintro r w5 ⟨D5, sc5, rfl, at5, ps5, hD5, t5⟩
  have AT5 := Lib.hid at5
  have PS5 := Lib.hid ps5
  have DD5 := Lib.hid (dn_trans DD4.out hD5 T14.out.size t5.size)
  have T15 := Lib.hid (show Turn D w w5 from T14.out.trans t5 (fun k hk h => h.elim (fun h => (DD4.out k h).elim id (fun h => by have := h.1; omega)) (fun h => by have := (HE3'.out k).1 h; omega)))
  have hc4 : ¬ (D4 c ∨ E3 c) := fun h => h.elim (fun h => (DD4.out c h).elim hcD (fun h => by have := h.1; have := HCW.out; omega)) (fun h => hcs ((HE3'.out c).1 h))
  have B5 := Lib.hid (B4.out.turn t5 hc4)
  clear SY at5 ps5 hD5 t5
  by_cases h0 : er = 0
  rotate_left 1
  · have d1' : ((er : Int) != 0) = true := by rw [bne_iff_ne]; omega
    have H1 := Lib.hid h0
    clear h0
    go_wp2
    go_ret
    rw [HQ.out, HLR2.out]
    exact ⟨D5, DD5.out, rfl, .inr ⟨H1.out, AT5.out.ld, T15.out⟩⟩
  have d1' : ((er : Int) != 0) = false := by rw [bne_eq_false_iff_eq]; omega
  have H1 := Lib.hid h0
  have SB5 := AT5.out.sb
  rw [HSS.out _ h0 PS5.out] at SB5
  have SB5 := Lib.hid SB5
  have hD5c : ¬ D5 c := fun h => (DD5.out c h).elim hcD (fun h => by have := h.1; have := HCW.out; omega)
  have hD5s : ¬ D5 s := AT5.out.dj s ((HE3'.out s).2 rfl)
  have hs5 := AT5.out.lt s ((HE3'.out s).2 rfl)
  have HS5 := Lib.hid hs5
  have DSN := Lib.hid (show ∀ j, j < w.heap.size → (D5 j ∨ j = c) → (D j ∨ j = c) from fun j hj h => h.elim (fun h => (DD5.out j h).elim .inl (fun h => by have := h.1; omega)) .inr)
  have HSW := Lib.hid (HS0.out.turn (N' := fun j => D5 j ∨ j = c) T15.out (fun _ h => .inl h) DSN.out)
  clear h0 HSS PS5 hs5
  obtain ⟨q0, -, -, -, -, -, q6, q7, q8, q9⟩ := B5.out.cells
  have z0 := B5.out.frozen 0
  have z6 := B5.out.frozen 6
  have z7 := B5.out.frozen 7
  go_upto_region 12 with fail
  have b6 := ((B5.out.set0 (.pointer (some ⟨s, 0, none⟩))).set6 1).set7 (t : Int)
  have t6 : Turn (fun k => k = c) w5 (((w5.setCell ⟨c, 0, none⟩ (.pointer (some ⟨s, 0, none⟩))).setCell ⟨c, 6, none⟩ (.int .i64 1)).setCell ⟨c, 7, none⟩ (.int .i64 (t : Int))) :=
    (((Turn.refl (fun k => k = c) w5).setCell ⟨c, 0, none⟩ _ (fun _ => rfl)).setCell ⟨c, 6, none⟩ _ (fun _ => rfl)).setCell ⟨c, 7, none⟩ _ (fun _ => rfl)
  obtain ⟨w6, hw6⟩ : ∃ w6, w6 = (((w5.setCell ⟨c, 0, none⟩ (.pointer (some ⟨s, 0, none⟩))).setCell ⟨c, 6, none⟩ (.int .i64 1)).setCell ⟨c, 7, none⟩ (.int .i64 (t : Int))) := ⟨_, rfl⟩
  change Code.wp _ _ _ _ (((w5.setCell ⟨c, 0, none⟩ (.pointer (some ⟨s, 0, none⟩))).setCell ⟨c, 6, none⟩ (.int .i64 1)).setCell ⟨c, 7, none⟩ (.int .i64 (t : Int)))
  rw [← hw6] at b6 t6 ⊢
  have B6 := Lib.hid b6
  have T6 := Lib.hid t6
  have CL := clone_at A cb lb (fun j => D5 j ∨ j = c) hd w6 (HSW.out.turn t6 (fun _ h => .inr h) (fun _ _ h => h)) HLB.out.symm HAC.out.1 (by rw [HLB.out]; exact HAC.out.2) (by rw [HLB.out]; have := HLEN.out; omega)
  have CL := Lib.hid CL
  clear hw6 b6 t6 q0 q6 q7 q8 q9 z0 z6 z7
  obtain ⟨-, -, -, -, -, -, -, -, q8, q9⟩ := B6.out.cells
  go_wp2_with (go_at_call 40; refine stop ?_)
  unfold Stop
  refine CL.out.mono ?_
  rintro r w7 ⟨v, rfl, o7, t7⟩
  obtain ⟨Av, cv, rfl, -, -, hcv, hav⟩ := own_sl o7
  have O7 := Lib.hid o7
  have AV := Lib.hid (And.intro hcv hav)
  have T7 := Lib.hid t7
  have B7 := Lib.hid (B6.out.turn t7 (fun h => h))
  clear CL o7 t7 q8 q9 hcv hav
  obtain ⟨-, -, -, -, -, -, -, -, q8, q9⟩ := B7.out.cells
  have z8 := B7.out.frozen 8
  have z9 := B7.out.frozen 9
  go_wp2
  go_ret
  have TC : Turn (fun k => k = c) w7 ((w7.setCell ⟨c, 8, none⟩ (.slice Av lb cv)).setCell ⟨c, 9, none⟩ (.slice none 0 0)) := ((Turn.refl (fun k => k = c) w7).setCell ⟨c, 8, none⟩ _ (fun _ => rfl)).setCell ⟨c, 9, none⟩ _ (fun _ => rfl)
  have TZ : Turn (fun k => k = c) w5 ((w7.setCell ⟨c, 8, none⟩ (.slice Av lb cv)).setCell ⟨c, 9, none⟩ (.slice none 0 0)) := (T6.out.trans T7.out (fun _ _ h => h.elim)).trans TC (fun _ _ h => h)
  have hsz := TZ.size
  have hsz6 := T6.out.size
  rw [HQ.out, HLR2.out]
  refine ⟨D5, fun j hj => (DD5.out j hj).elim .inl (fun h => .inr ⟨h.1, Nat.lt_of_lt_of_le h.2 hsz⟩), (by rw [H1.out]; rfl), .inl ⟨H1.out, fun j => j = s ∨ j = c, ⟨AT5.out.ld.keep TZ (fun j hj e => by have e : j = c := e; subst e; exact hD5c hj) (fun j e => by have e : j = c := e; subst e; exact HC2.out), ⟨by show 1 ≤ 1; omega, HT.out, ?_, Nat.le_refl _, by show 1 ≤ 1000000; omega, fun y hy => ?_⟩, ⟨s, hd, Av, cv, _, 0, [], ?_, ?_, rfl, ?_, AV.out.2, ?_, ⟨rfl, .inl ⟨rfl, rfl⟩⟩, ⟨rfl, fun i y hy => by cases hy⟩, hcs.symm, .inl rfl, fun j hj => by cases hj⟩, .inr rfl, ?_, ?_, ?_⟩, ?_, ?_⟩⟩
  · show hf + secsOf (formV13 t 0 hd) ≤ 1 * (n / 2) + n / 2
    rw [← HHF.out]; have := HRM.out; omega
  · have hy : y ∈ [hd] := hy
    simp at hy; rw [hy]; exact HLEN.out
  · have h := (B7.out.set8 (.slice Av lb cv)).set9 (.slice none 0 0)
    rw [HLB.out, HHF.out] at h
    rw [HLB.out]
    exact h
  · have h := sbp_keep SB5.out TZ (fun k hk e => by have h1 := (HE3'.out k).1 hk; have e : k = c := e; omega)
    obtain ⟨h1, -, h3⟩ := h
    refine ⟨h1, fun k => Iff.rfl, ?_⟩
    show ∃ P tt nn p l, _
    have e : (Scr.mk (hf + secsOf (formV13 t 0 hd)) (hf + hf) t 1 false) = (Ck.mk 1 t [hd] (hf + secsOf (formV13 t 0 hd))).scr (n / 2) := by
      unfold Ck.scr Ck.fin
      show _ = Scr.mk (hf + secsOf (formV13 t 0 hd)) (1 * (n / 2) + n / 2) t 1 false
      rw [← HHF.out, show 1 * hf = hf by omega]
    rw [← e]; exact h3
  · exact (own_sln O7.out (N := fun j => D5 j ∨ (j = s ∨ j = c)) (fun j h => by
      rcases h with h | h | h
      · have := AT5.out.ld.lt j h; omega
      · have := HS5.out; omega
      · have := B5.out.lt; omega)).turn TC (fun j e => .inr (.inr e)) (fun _ _ h => h)
  · rw [← HLB.out]; exact AV.out.1
  · intro j hj
    rcases hj with h | h
    · rw [h]; exact SB5.out.1
    · rw [h]; exact HC2.out
  · intro j hj
    rcases hj with h | h
    · rw [h]; exact hD5s
    · rw [h]; exact hD5c
  · intro j hj
    rcases hj with h | h
    · rw [h]; exact Nat.lt_of_lt_of_le HS5.out hsz
    · rw [h]; exact Nat.lt_of_lt_of_le B5.out.lt hsz
  · intro j hj
    rcases hj with h | h
    · refine .inr ⟨by omega, ?_⟩
      rw [h]; exact Nat.lt_of_lt_of_le HS5.out hsz
    · exact .inl h
  · exact (T15.out.mono (fun _ _ h => .inl h)).trans TZ (fun _ _ h => .inr h)
theorem lay_any (w : World) (g c n a t : Nat) (d : Dr) (D : Nat → Prop) (PS : Value) (a0 t0 : Int) (H0 N0 : Value) (A : Option Addr) (cb : Nat) (hd : List B8) (ha : a ≤ 1) (ld : LD w g n d D) (hoff : d.off = false) (hn : n ≤ 8192) (bx : KBox w c PS (.pointer (some ⟨g, 0, none⟩)) ((n / 2 : Nat) : Int) a0 t0 H0 N0) (hcD : ¬ D c) (hc2 : 2 ≤ c) (ht : t ≤ mostS) (hW : d.W.length + n / 2 + 1024 < 10000)
    (hs : SlN w (fun j => D j ∨ j = c) A (hd.map bv)) (hA : A = none → cb = 0) (hc : hd.length ≤ cb) (hlen : hd.length ≤ 900000) :
    Calls Tryd.prog 44 #[.pointer (some ⟨c, 0, none⟩), .int .i64 (a : Int), .int .i64 (t : Int), .slice A hd.length cb] w (LPost g c n a t d hd D w) := by
  rcases Nat.lt_or_ge a 1 with h | h
  · obtain rfl : a = 0 := by omega
    exact lay0_any w g c n t d D PS a0 t0 H0 N0 A cb hd ld hoff hn bx hcD hc2 ht hW hs hA hc hlen
  · obtain rfl : a = 1 := by omega
    exact lay1_any w g c n t d D PS a0 t0 H0 N0 A cb hd ld hoff hn bx hcD hc2 ht hW hs hA hc hlen
end
end Go.Proofs.YtajdcekkmikbcaaDoor
