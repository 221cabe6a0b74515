/- ChestPlays: whatever is kept, turned, and opened anew with the power on, a chest has what the document says. -/
import Derived.Test.YtfiopkehpcipdaaDoorM48
set_option linter.unusedVariables false
set_option linter.unusedSimpArgs false
namespace Go.Proofs.YtfiopkehpcipdaaDoor
open Go.RowKit
set_option maxRecDepth 100000
/-- The document's chest in a block of its own, that may be written. -/
def RefX (w : World) (x : Nat) (t half : Int) (L : List (List B8)) (N : Nat → Prop) : Prop := ¬ N x ∧ ∃ A cc, w.heap[x]? = some (.cells (cstC t half A L.length cc) 33 (0, 0)) ∧ LstQ w (fun i => N i ∨ i = x) A L ∧ (A = none → cc = 0) ∧ L.length ≤ cc
theorem RefX.turn {w w' : World} {x : Nat} {t half : Int} {L : List (List B8)} {S N N' : Nat → Prop} (h : RefX w x t half L N) (k : Turn S w w') (hS : ∀ i, S i → N i) (hN : ∀ i, i < w.heap.size → N' i → N i) : RefX w' x t half L N' := by
  obtain ⟨hx, A, cc, hb, hl, hA, hc⟩ := h
  exact ⟨fun h => hx (hN x (lt_of_block hb) h), A, cc, k.heap hb (fun h => hx (hS x h)), hl.turn k (fun i h => .inl (hS i h)) (fun i hi h => h.elim (fun h => .inl (hN i hi h)) .inr), hA, hc⟩
theorem RefX.quiet {w w' : World} {x : Nat} {t half : Int} {L : List (List B8)} {N : Nat → Prop} (h : RefX w x t half L N) (k : Turn (fun _ => False) w w') : RefX w' x t half L N := h.turn k (fun _ h => h.elim) (fun _ _ h => h)
theorem RefX.ref {w : World} {x : Nat} {t half : Int} {L : List (List B8)} {N : Nat → Prop} (h : RefX w x t half L N) : RefAt w x t half L N := by
  obtain ⟨hx, A, cc, hb, hl, hA, hc⟩ := h
  exact ⟨hx, A, cc, hb, hl.turn (Turn.refl (fun _ => False) _) (fun _ h => h.elim) (fun _ _ h => .inl h), hA, hc⟩
/-- A value of the document's stored into the block. -/
theorem RefX.store {w w' : World} {x : Nat} {t half t' : Int} {L L' : List (List B8)} {N : Nat → Prop} {A : Option Addr} {cc : Nat} {C : Array Value} (h : RefX w x t half L N) (hl : LstQ w' (fun i => (N i ∨ i = x) ∧ i < w.heap.size) A L') (tt : Turn (fun _ => False) w w') (hC : C = cstC t' half A L'.length cc) (hA : A = none → cc = 0) (hc : L'.length ≤ cc) (hN : ∀ i, N i → i < w.heap.size) : RefX (w'.setRow x C) x t' half L' N := by
  obtain ⟨hx, A0, cc0, hb, -, -, -⟩ := h
  have hb' := tt.heap hb (fun h => h)
  have hxl := lt_of_block hb
  refine ⟨hx, A, cc, by rw [← hC]; exact setRow_heap _ _ _ _ _ _ hb', hl.turn (S := fun i => i = x) ((Turn.refl _ _).setRow x C (fun _ => rfl)) (fun i e => ⟨.inr e, by have e : i = x := e; omega⟩) (fun i hi h => ⟨h, ?_⟩), hA, hc⟩
  rcases h with h | h
  · exact hN i h
  · have h : i = x := h
    omega
/-- What a block of the document's chest isn't: a byte. -/
theorem no_byte {w : World} {x : Nat} {t half : Int} {A : Option Addr} {n cc : Nat} (h : w.heap[x]? = some (.cells (cstC t half A n cc) 33 (0, 0))) {p : Addr} {b : B8} (hc : w.cell? p = some (bv b)) : p.block ≠ x := by
  intro e
  have hs := spot_none hc
  obtain ⟨g, o, s⟩ := p
  have hs : s = none := hs
  have e : g = x := e
  subst hs e
  rw [cell_of_row _ _ _ _ _ _ h] at hc
  match o, hc with
  | 0, hc => injection hc with hc; unfold bv at hc; injection hc with hc; cases hc
  | 1, hc => injection hc with hc; unfold bv at hc; injection hc with hc; cases hc
  | 2, hc => injection hc with hc; unfold bv at hc; cases hc
  | o + 3, hc => simp at hc
theorem sln_apart {w w' : World} {x : Nat} {t half : Int} {A0 : Option Addr} {n cc : Nat} (h : w.heap[x]? = some (.cells (cstC t half A0 n cc) 33 (0, 0))) (k : Turn (fun j => j = x) w w') {N : Nat → Prop} {A : Option Addr} {b : List B8} (hs : SlN w N A (b.map bv)) : SlN w' N A (b.map bv) := fun j u hu => by
  obtain ⟨ad, e, hb, hc⟩ := hs j u hu
  rw [List.getElem?_map] at hu
  obtain ⟨y, hy, rfl⟩ := Option.map_eq_some_iff.1 hu
  have hne := no_byte h hc
  exact ⟨ad, e, hb, k.cell hc hne⟩
/-- A store into the document's chest leaves the landed one. -/
theorem KAt.apart {w w' : World} {g c n : Nat} {d : Dr} {k : Ck} {D E : Nat → Prop} {x : Nat} {t half : Int} {A0 : Option Addr} {n0 cc : Nat} (h : KAt w g c n d k D E) (hx : w.heap[x]? = some (.cells (cstC t half A0 n0 cc) 33 (0, 0))) (tt : Turn (fun j => j = x) w w') (hD : ¬ D x) (hE : ¬ E x) (h2 : 2 ≤ x) : KAt w' g c n d k D E := by
  obtain ⟨ld, ok, ⟨s, hd, Ah, ch, NV, o, vs, h1, h2', h3, h4, h5, h6, h7, h8, h9, h10, h11⟩, own, two, dj, lt⟩ := h
  exact ⟨ld.keep tt (fun j hj e => by have e : j = x := e; subst e; exact hD hj) (fun j e => by have e : j = x := e; omega), ok, ⟨s, hd, Ah, ch, NV, o, vs, h1.turn tt (fun e => by have e : c = x := e; subst e; exact hE own), sbp_keep h2' tt (fun j hj e => by have e : j = x := e; subst e; subst hj; exact hE h10), h3, sln_apart hx tt h4, h5, h6, ownsO_turn h7 tt (fun j hj e => by have e : j = x := e; subst e; exact hE (h11 _ hj).1), ⟨h8.1, fun i y hy => by
    obtain ⟨Ai, ci, g1, g2, g3, g4⟩ := h8.2 i y hy
    exact ⟨Ai, ci, g1, g2, g3, sln_apart hx tt g4⟩⟩, h9, h10, h11⟩, own, two, dj, fun j hj => Nat.lt_of_lt_of_le (lt j hj) tt.size⟩
theorem kept_le {t half : Int} {L : List (List B8)} {b : List B8} : (keepL t half L b).length ≤ L.length + 1 := by
  unfold keepL; split
  · simp
  · omega
theorem changed_le {t half : Int} {L : List (List B8)} {b : List B8} : (changeL t half L b).length ≤ L.length + 1 := by
  unfold changeL; split
  · simp
  · omega
set_option maxHeartbeats 16000000 in
theorem chestPlays_main (n : Nat) (h2 : 2 ≤ n) (hn40 : n ≤ 40) (A : Option Addr) (c0 : Nat) (l : List Ac) (w : World) (hG : Glob w) (hl : Acs w w.heap.size A l) (hA : A = none → c0 = 0) (hm : l.length ≤ maxLen) :
    Calls Tryd.prog 3 #[.int .i64 (n : Int), .slice A l.length c0] w fun r w' => r = .returned (.bool true) ∧ Turn (fun _ => False) w w' := by
  have AW := Lib.hid (fun (w' : World) (t : Turn (fun _ => False) w w') => awake14 w' (glob_turn hG t))
  have d40 : decide ((40 : Int) < (n : Int)) = false := decide_eq_false (by omega)
  have d40' : decide (40 < n) = false := decide_eq_false (by omega)
  have d2 : decide ((n : Int) < 2) = false := decide_eq_false (by omega)
  have d2' : decide (n < 2) = false := decide_eq_false (by omega)
  obtain ⟨hf, hhf⟩ : ∃ x, x = n / 2 := ⟨_, rfl⟩
  have hq : ((n : Int)).tdiv 2 = (hf : Int) := by rw [Int.tdiv_eq_ediv_of_nonneg (by omega)]; omega
  have hq2 : (n : Int) / 2 = (hf : Int) := by omega
  have HHF := Lib.hid hhf
  have GRH := Lib.hid (great14_any A c0 l w hl hm)
  have HL := Lib.hid hl
  have NW := Lib.hid (LD.new n (by omega) (by omega) w hG)
  obtain ⟨ll, hll⟩ : ∃ x, x = l.length := ⟨_, rfl⟩
  rw [← hll] at GRH ⊢
  have HLL := Lib.hid hll
  clear hl hhf hll hm
  go_enter Tryd.func3, Tryd.ntmps3
  go_wp2_with (go_at_call 8; refine stop ?_)
  unfold Stop
  refine GRH.out.mono ?_
  rintro r w1 ⟨v, rfl, hv, hw⟩
  rw [hw]
  clear GRH hw w1
  cases v with
  | true =>
    clear hv
    go_wp2_with (go_at_call 9; refine stop ?_)
    unfold Stop
    refine (AW.out w (Turn.refl _ _)).mono ?_
    rintro r w6 ⟨rfl, t6⟩
    have T6 := Lib.hid t6
    clear t6
    go_wp2
    go_ret
    exact ⟨rfl, T6.out⟩
  | false =>
  have HGR := Lib.hid (hv rfl)
  clear hv
  go_wp2_with (go_at_call 10; refine stop ?_)
  unfold Stop
  refine NW.out.mono ?_
  rintro r w1 ⟨g, rfl, l1, t1⟩
  obtain ⟨b1, b2, b3, b4⟩ := chest_new (n := n) h2
  have OP := Lib.hid (kopen_any w1 g n (Dr.new n) _ l1 rfl h2 (by omega) (by show 0 + n / 2 + 1024 < 10000; omega))
  have T1 := Lib.hid t1
  have HB := Lib.hid (And.intro b1 (And.intro b2 (And.intro b3 b4)))
  clear NW l1 t1 b1 b2 b3 b4
  go_wp2_with (go_at_call 11; refine stop ?_)
  unfold Stop
  refine OP.out.mono ?_
  rintro r w2 ⟨D2, hD2, t2, hpost⟩
  rcases hpost with ⟨-, c, E2, rfl, ka, hE2⟩ | ⟨he, -⟩
  rotate_left 1
  · exact absurd HB.out.1 he
  have cg2 := HB.out.2.1
  rw [HB.out.2.2.2] at ka cg2
  have KA := Lib.hid ka
  have CGA := Lib.hid cg2
  have TW := Lib.hid (show Turn (fun _ => False) w w2 from T1.out.trans t2 (fun k hk h => by have := h.1; omega))
  have DE := Lib.hid (show (∀ k, D2 k → w.heap.size ≤ k) ∧ (∀ k, E2 k → w.heap.size ≤ k) from ⟨fun k hk => (hD2 k hk).elim (fun h => h.1) (fun h => Nat.le_trans T1.out.size h.1), fun k hk => Nat.le_trans T1.out.size (hE2 k hk).1⟩)
  have W0 := Lib.hid HB.out.2.2.1
  have FR := Lib.hid (rfresh_any (fun i => D2 i ∨ E2 i) (hf : Int) w2)
  clear OP ka cg2 t2 hD2 hE2 HB
  go_wp2_with (go_at_call 12; refine stop ?_)
  unfold Stop
  refine FR.out.mono ?_
  rintro r w3 ⟨v, rfl, A3, c3, hv, q3, a3, k3, t3⟩
  obtain ⟨CF, hCF⟩ : ∃ CF, CF = cstC 1 (hf : Int) A3 1 c3 := ⟨_, rfl⟩
  have hvC : v = .agg CF := by rw [hv, hCF]; rfl
  have KC := Lib.hid (show (Tryd.prog.info? 33).map (·.size) = some CF.size ∧ ZCh.size = CF.size ∧ CF.all (·.oneCell') = true by rw [hCF]; exact cst_facts _ _ _ _ _)
  have HA4 := Lib.hid (show (w3.alloc (.cells ZCh 33)).heap[w3.heap.size]? = some (.cells ZCh 33 (0, 0)) from heap_alloc_new _ _)
  obtain ⟨w4, hw4⟩ : ∃ w4, w4 = (w3.alloc (.cells ZCh 33)).setRow w3.heap.size CF := ⟨_, rfl⟩
  obtain ⟨x, hx⟩ : ∃ x, x = w3.heap.size := ⟨_, rfl⟩
  have t4 : Turn (fun _ => False) w3 w4 := by rw [hw4]; exact ((Turn.refl _ _).alloc _).setRow _ _ (fun h => by omega)
  have T34 := Lib.hid (t3.trans t4 (fun _ _ h => h))
  have K4 := Lib.hid (KA.out.quiet T34.out)
  have hszx := t3.size
  have RX := Lib.hid (show RefX w4 x 1 (hf : Int) [[]] (fun i => D2 i ∨ E2 i) from by
    refine ⟨fun h => ?_, A3, c3, ?_, q3.turn t4 (fun _ h => h.elim) (fun i hi h => ?_), a3, k3⟩
    · rcases h with h | h
      · have := KA.out.ld.lt x h; omega
      · have := KA.out.lt x h; omega
    · rw [hCF] at hw4
      rw [hw4, hx]; exact setRow_heap _ _ _ _ _ _ HA4.out
    · rcases h with h | h
      · exact ⟨h, h.elim (fun h => KA.out.ld.lt i h) (fun h => KA.out.lt i h)⟩
      · have h : i = x := h
        omega)
  have T4 := Lib.hid (TW.out.trans T34.out (fun _ _ h => h))
  have HXW := Lib.hid (show w.heap.size ≤ x by have := TW.out.size; omega)
  subst hvC
  clear hv hCF q3 a3 k3 t3 t4 FR hszx
  go_upto_region 8 with (refine wpList_store_row rfl _ _ _ rfl w3.heap.size CF rfl rfl 33 ZCh HA4.out KC.out.1 KC.out.2.1 KC.out.2.2 ?_)
  change Code.wp _ _ _ _ ((w3.alloc (.cells ZCh 33)).setRow w3.heap.size CF)
  rw [← hw4, ← hx]
  clear hw4 hx
  obtain ⟨Ai, ci, hbi, -, -, -, ISI⟩ := is_ref K4.out CGA.out RX.out.ref (by rw [HHF.out]) (by omega)
  have HBI := Lib.hid hbi
  have ISI := Lib.hid ISI
  clear hbi
  obtain ⟨u0, u1, u2'⟩ := CBx.cells HBI.out
  go_wp2_with (go_at_call 13; refine stop ?_)
  unfold Stop
  clear u0 u1 u2'
  refine (ISI.out w4 (Turn.refl _ _)).mono ?_
  rintro r w5 ⟨rfl, t5⟩
  have K5 := Lib.hid (K4.out.quiet t5)
  have R5 := Lib.hid (RX.out.quiet t5)
  have T5 := Lib.hid (T4.out.trans t5 (fun _ _ h => h))
  clear t5 ISI HBI RX K4 T4
  go_wp2
  go_loopw [6, 9] (fun cv iv wr => ∃ (i c : Nat) (d : Dr) (k : Ck) (D E : Nat → Prop), i ≤ ll ∧ iv = .int .i64 (i : Int) ∧ cv = .pointer (some ⟨c, 0, none⟩) ∧ KAt wr g c n d k D E ∧ CG d n k ∧ RefX wr x k.t (hf : Int) k.L (fun j => D j ∨ E j) ∧ d.W.length ≤ 20 * i ∧ k.L.length ≤ 1 + i ∧ ((∀ j, D j → w.heap.size ≤ j) ∧ (∀ j, E j → w.heap.size ≤ j)) ∧ Turn (fun _ => False) w wr) (fun _ iv _ => ll - (intOf iv).toNat)
  case atStart => exact ⟨0, c, _, _, D2, E2, by omega, rfl, rfl, K5.out, CGA.out, R5.out, by rw [W0.out]; exact Nat.zero_le _, Nat.le_refl _, DE.out, T5.out⟩
  case round =>
    obtain ⟨i, c, d, k, D, E, hi, rfl, rfl, ka, cg, rx, hWb, hLb, hDE, ht⟩ := hrel
    clear K5 R5 T5 DE W0 CGA KA T34 TW
    have HK := Lib.hid ka
    have HCG := Lib.hid cg
    have HRX := Lib.hid rx
    have HDE := Lib.hid hDE
    have HT := Lib.hid ht
    have HGL := Lib.hid (show ll ≤ 30 from HGR.out.1)
    have HWB := Lib.hid hWb
    have HLB := Lib.hid hLb
    clear ka cg rx hDE ht hWb hLb
    obtain ⟨W5, eW5⟩ : ∃ W5, W5 = wr := ⟨_, rfl⟩
    subst eW5
    by_cases hil : i < ll
    rotate_left 1
    · have hie : i = ll := by omega
      have dl : decide ((i : Int) < (ll : Int)) = false := decide_eq_false (by omega)
      have dl' : decide (i < ll) = false := decide_eq_false hil
      clear hil hie hi
      go_wp2_with (go_at_call 9; refine stop ?_)
      unfold Stop
      refine (AW.out W5 HT.out).mono ?_
      rintro r w6 ⟨rfl, t6⟩
      have T6 := Lib.hid (HT.out.trans t6 (fun _ _ h => h))
      clear t6
      go_wp2
      go_ret
      exact ⟨rfl, T6.out⟩
    have HIL := Lib.hid hil
    have dl : decide ((i : Int) < (ll : Int)) = true := decide_eq_true (by omega)
    have dl' : decide (i < ll) = true := decide_eq_true hil
    have hli : i < l.length := by rw [← HLL.out]; exact hil
    obtain ⟨f, hf_⟩ : ∃ f, f = l[i] := ⟨_, rfl⟩
    have hfi : l[i]? = some f := by rw [hf_]; exact List.getElem?_eq_getElem hli
    obtain ⟨hfok, bb, o, rfl, hbb, hrg⟩ := HL.out i f hfi
    have hact := HGR.out.2 f (List.mem_of_getElem? hfi)
    have hrg5 : W5.rangeAt bb (o + i * 4) [.int .i64 f.k, .int .i64 f.n, .slice f.A f.b.length f.c, .slice f.A' f.m.length f.c'] := fun j v hj => HT.out.cell (hrg j v hj) (fun h => h)
    have HRG := Lib.hid hrg5
    obtain ⟨fb, hfb⟩ : ∃ b, b = f.b := ⟨_, rfl⟩
    obtain ⟨lb, hlb⟩ : ∃ b, b = fb.length := ⟨_, rfl⟩
    obtain ⟨lm, hlm⟩ : ∃ b, b = f.m.length := ⟨_, rfl⟩
    have KSA := Lib.hid (show (Tryd.prog.info? 38).map (·.size) = some 4 by kernel_rfl)
    obtain ⟨w6, hw6⟩ : ∃ w6, w6 = W5.alloc (.cells #[.int .i64 f.k, .int .i64 f.n, .slice f.A lb f.c, .slice f.A' lm f.c'] 38) := ⟨_, rfl⟩
    obtain ⟨y, hy⟩ : ∃ y, y = W5.heap.size := ⟨_, rfl⟩
    have t6 : Turn (fun _ => False) W5 w6 := by rw [hw6]; exact (Turn.refl _ _).alloc _
    have Y6 := Lib.hid (show w6.heap[y]? = some (.cells #[.int .i64 f.k, .int .i64 f.n, .slice f.A lb f.c, .slice f.A' lm f.c'] 38 (0, 0)) by rw [hw6, hy]; exact heap_alloc_new _ _)
    have K6 := Lib.hid (HK.out.quiet t6)
    have R6 := Lib.hid (HRX.out.quiet t6)
    have T6 := Lib.hid (HT.out.trans t6 (fun _ _ h => h))
    have SB := Lib.hid (show SlN w6 (fun j => w.heap.size ≤ j) f.A (fb.map bv) from by
      rw [hfb]
      intro j u hu
      obtain ⟨ad, e, hb, hc⟩ := hfok.s j u hu
      exact ⟨ad, e, fun h => by omega, T6.out.cell hc (fun h => h)⟩)
    have ABB := Lib.hid (show (f.A = none → f.c = 0) ∧ fb.length ≤ f.c ∧ fb.length ≤ 300 from ⟨hfok.a, by rw [hfb]; exact hfok.c, by rw [hfb]; exact hact.1⟩)
    rw [hfb.symm, hlb.symm, hlm.symm] at hrg5
    have HRG := Lib.hid hrg5
    have HLBB := Lib.hid hlb
    have HYD := Lib.hid (show ¬ (D y ∨ E y) from fun h => by have := h.elim (fun h => HK.out.ld.lt y h) (fun h => HK.out.lt y h); omega)
    have HYX := Lib.hid (show y ≠ x from fun e => by obtain ⟨-, _, _, hb, -⟩ := HRX.out; have := lt_of_block hb; omega)
    have bk0 := hfok.k0
    have bk1 := hfok.k1
    clear hrg hrg5 hfok hact hfi hf_ hbb hli hfb hlb hlm t6
    go_upto_region 14 with (refine wpList_load_mid rfl 38 _ rfl bb (o + i * 4) rfl [.int .i64 f.k, .int .i64 f.n, .slice f.A lb f.c, .slice f.A' lm f.c'] _ HRG.out Tryd.underlying38 rfl KSA.out ?_)
    change Code.wp _ _ _ _ (W5.alloc (.cells #[.int .i64 f.k, .int .i64 f.n, .slice f.A lb f.c, .slice f.A' lm f.c'] 38))
    rw [← hw6, ← hy]
    clear hw6 hy
    have y0 : w6.cell? ⟨y, 0, none⟩ = some (.int .i64 f.k) := by rw [cell_of_row _ _ _ _ _ _ Y6.out]; rfl
    have y2 : w6.cell? ⟨y, 2, none⟩ = some (.slice f.A lb f.c) := by rw [cell_of_row _ _ _ _ _ _ Y6.out]; rfl
    by_cases z0 : f.k = 0
    · rw [z0] at y0
      obtain ⟨hnx, Ar, cr, hbr, hlr, hAr, hcr⟩ := R6.out
      have HBR := Lib.hid hbr
      have RK := rkeep_any (fun j => (D j ∨ E j) ∨ j = x) (k.t : Int) (hf : Int) Ar cr k.L f.A f.c fb w6 (hlr.turn (N' := fun j => (D j ∨ E j) ∨ j = x) (Turn.refl (fun _ => False) _) (fun _ h => h.elim) (fun _ _ h => h)) hAr hcr (by have := HLB.out; have := HGL.out; omega) K6.out.ok.b (by omega) (by omega) (Bts.of_sl SB.out.sl) ABB.out.1 (by have := ABB.out.2.2; omega)
      obtain ⟨nk, hnk⟩ : ∃ n, n = k.L.length := ⟨_, rfl⟩
      rw [← hnk, ← HLBB.out] at RK
      rw [← hnk] at HBR
      have RK := Lib.hid RK
      obtain ⟨u0, u1, u2'⟩ := CBx.cells HBR.out
      clear hbr hlr hAr hcr hnk
      go_wp2_with (go_at_call 14; refine stop ?_)
      unfold Stop
      clear u0 u1 u2'
      refine RK.out.mono ?_
      rintro r w7 ⟨A7, c7, rfl, q7, a7, k7, t7⟩
      obtain ⟨CF, hCF⟩ : ∃ CF, CF = cstC (k.t : Int) (hf : Int) A7 (keepL k.t (hf : Int) k.L fb).length c7 := ⟨_, rfl⟩
      rw [show cstV (k.t : Int) (hf : Int) A7 (keepL k.t (hf : Int) k.L fb).length c7 = .agg CF by rw [hCF]; rfl]
      have KC := Lib.hid (show (Tryd.prog.info? 33).map (·.size) = some CF.size ∧ 3 = CF.size ∧ CF.all (·.oneCell') = true by rw [hCF]; exact cst_facts _ _ _ _ _)
      have X7 := Lib.hid (show w7.heap[x]? = some (.cells (cstC k.t (hf : Int) Ar nk cr) 33 (0, 0)) from t7.heap HBR.out (fun h => h))
      have R8 := Lib.hid (R6.out.store q7 t7 hCF a7 k7 (fun j h => h.elim (fun h => K6.out.ld.lt j h) (fun h => K6.out.lt j h)))
      obtain ⟨w8, hw8⟩ : ∃ w8, w8 = w7.setRow x CF := ⟨_, rfl⟩
      have t8 : Turn (fun j => j = x) w7 w8 := by rw [hw8]; exact (Turn.refl _ _).setRow _ _ (fun _ => rfl)
      have t68 : Turn (fun j => j = x) w6 w8 := (t7.mono (fun _ _ h => h.elim)).trans t8 (fun _ _ h => h)
      have Y8 := t68.heap Y6.out HYX.out
      have K8 := Lib.hid (show KAt w8 g c n d k D E from (K6.out.quiet t7).apart X7.out t8 (fun h => hnx (.inl h)) (fun h => hnx (.inr h)) (by have := HXW.out; have := hG.1; omega))
      have T8 := Lib.hid (show Turn (fun _ => False) w w8 from T6.out.trans t68 (fun j hj e => by have e : j = x := e; have := HXW.out; omega))
      have SB8 := Lib.hid (SB.out.turn (N' := fun j => D j ∨ E j) t68 (fun j e => by have e : j = x := e; have := HXW.out; omega) (fun j _ h => h.elim (HDE.out.1 j) (HDE.out.2 j)))
      rw [← hw8] at R8
      obtain ⟨ee, hee⟩ : ∃ e, e = keepE k.t (hf : Int) k.L fb := ⟨_, rfl⟩
      rw [← hee]
      have HEE := Lib.hid hee
      have y2 : w8.cell? ⟨y, 2, none⟩ = some (.slice f.A lb f.c) := by rw [cell_of_row _ _ _ _ _ _ Y8]; rfl
      clear hCF q7 a7 k7 t7 t8 t68 y0 hee
      go_upto_region 19 with (refine wpList_store_row rfl _ _ _ rfl x CF rfl rfl 33 _ X7.out KC.out.1 KC.out.2.1 KC.out.2.2 ?_)
      rw [← hw8]
      clear hw8
      have KP := kkeep_good K8.out HCG.out f.A f.c fb (by omega) SB8.out ABB.out.1 ABB.out.2.1 (by have := ABB.out.2.2; omega) (by have := HLB.out; have := HGL.out; omega) (by have := HWB.out; have := HGL.out; omega)
      rw [← HHF.out, ← HEE.out, ← HLBB.out] at KP
      have KP := Lib.hid KP
      go_wp2_with (go_at_call 15; refine stop ?_)
      unfold Stop
      refine KP.out.mono ?_
      rintro r wz ⟨dz, pz, Dz, Ez, rfl, kaz, cgz, hWz, hDz, hEz, tz⟩
      obtain ⟨kz, hkz⟩ : ∃ kz : Ck, kz = ⟨k.a, k.t, keepL k.t (hf : Int) k.L fb, pz⟩ := ⟨_, rfl⟩
      have hkt : kz.t = k.t := by rw [hkz]
      have hkL : kz.L = keepL k.t (hf : Int) k.L fb := by rw [hkz]
      rw [← hkz] at kaz cgz
      obtain ⟨cz, hcz⟩ : ∃ cz, cz = c := ⟨_, rfl⟩
      have KZ := Lib.hid (show KAt wz g cz n dz kz Dz Ez by rw [hcz]; exact kaz)
      have CZ := Lib.hid cgz
      have RZ := Lib.hid (show RefX wz x kz.t (hf : Int) kz.L (fun j => Dz j ∨ Ez j) by
        rw [hkt, hkL]
        exact R8.out.turn tz (fun _ h => h) (fun j hj h => h.elim (fun h => (hDz j h).elim .inl (fun h => by have := h.1; omega)) (fun h => (hEz j h).elim .inr (fun h => by have := h.1; omega))))
      have WZ := Lib.hid (show dz.W.length ≤ 20 * (i + 1) by have := HWB.out; have := HHF.out; omega)
      have LZ := Lib.hid (show kz.L.length ≤ 1 + (i + 1) by rw [hkL]; have := kept_le (t := (k.t : Int)) (half := (hf : Int)) (L := k.L) (b := fb); have := HLB.out; omega)
      have hsz8 := T8.out.size
      have DZ := Lib.hid (show (∀ j, Dz j → w.heap.size ≤ j) ∧ (∀ j, Ez j → w.heap.size ≤ j) from ⟨fun j h => (hDz j h).elim (HDE.out.1 j) (fun h => by have := h.1; omega), fun j h => (hEz j h).elim (HDE.out.2 j) (fun h => by have := h.1; omega)⟩)
      have TZ := Lib.hid (show Turn (fun _ => False) w wz from T8.out.trans tz (fun j hj h => by have := h.elim (HDE.out.1 j) (HDE.out.2 j); omega))
      have HCZ := Lib.hid hcz
      rw [← hcz]
      clear kaz cgz hkz hkt hkL hcz hWz hDz hEz tz hsz8 KP y2 Y8
      obtain ⟨Ai, ci, hbi, -, -, -, ISI⟩ := is_ref KZ.out CZ.out RZ.out.ref (by rw [HHF.out]) (by omega)
      have HBI := Lib.hid hbi
      have ISI := Lib.hid ISI
      clear hbi
      obtain ⟨u0, u1, u2'⟩ := CBx.cells HBI.out
      go_wp2_with (go_at_call 13; refine stop ?_)
      unfold Stop
      clear u0 u1 u2'
      refine (ISI.out wz (Turn.refl _ _)).mono ?_
      rintro r wy ⟨rfl, ty⟩
      have KY := Lib.hid (KZ.out.quiet ty)
      have RY := Lib.hid (RZ.out.quiet ty)
      have TY := Lib.hid (TZ.out.trans ty (fun _ _ h => h))
      clear ty ISI HBI RZ KZ TZ
      have hi30 : i < 30 := by have := HIL.out; have := HGL.out; omega
      have hwi : IntKind.i64.wrap ((i : Int) + 1) = (i : Int) + 1 := IntWalk.i64_in _ (by omega)
      go_wp2
      go_roundw
      case rel => exact ⟨i + 1, cz, dz, kz, Dz, Ez, by have := HIL.out; omega, by go_num, rfl, KY.out, CZ.out, RY.out, WZ.out, LZ.out, DZ.out, TY.out⟩
      case measure => simp [intOf]; have := HIL.out; omega
    by_cases z1 : f.k = 1
    · rw [z1] at y0
      obtain ⟨cz, hcz⟩ : ∃ cz, cz = c := ⟨_, rfl⟩
      have SY := Lib.hid (ksync_good K6.out HCG.out)
      go_wp2_with (go_at_call 16; refine stop ?_)
      unfold Stop
      refine SY.out.mono ?_
      rintro r wz ⟨Dz, rfl, kaz, cgz, hWz, hDz, tz⟩
      obtain ⟨dz, hdz⟩ : ∃ dz, dz = d.sync := ⟨_, rfl⟩
      rw [← hdz] at kaz cgz hWz
      obtain ⟨kz, hkz⟩ : ∃ kz, kz = k := ⟨_, rfl⟩
      obtain ⟨Ez, hEz⟩ : ∃ Ez, Ez = E := ⟨_, rfl⟩
      have KZ := Lib.hid (show KAt wz g cz n dz kz Dz Ez by rw [hcz, hkz, hEz]; exact kaz)
      have CZ := Lib.hid (show CG dz n kz by rw [hkz]; exact cgz)
      have RZ := Lib.hid (show RefX wz x kz.t (hf : Int) kz.L (fun j => Dz j ∨ Ez j) by
        rw [hkz, hEz]
        exact R6.out.turn tz (fun _ h => h) (fun j hj h => h.elim (fun h => (hDz j h).elim .inl (fun h => by have := h.1; omega)) .inr))
      have WZ := Lib.hid (show dz.W.length ≤ 20 * (i + 1) by rw [hWz]; exact Nat.zero_le _)
      have LZ := Lib.hid (show kz.L.length ≤ 1 + (i + 1) by rw [hkz]; have := HLB.out; omega)
      have hsz8 := T6.out.size
      have DZ := Lib.hid (show (∀ j, Dz j → w.heap.size ≤ j) ∧ (∀ j, Ez j → w.heap.size ≤ j) from ⟨fun j h => (hDz j h).elim (HDE.out.1 j) (fun h => by have := h.1; omega), fun j h => by rw [hEz] at h; exact HDE.out.2 j h⟩)
      have TZ := Lib.hid (show Turn (fun _ => False) w wz from T6.out.trans tz (fun j hj h => by have := h.elim (HDE.out.1 j) (HDE.out.2 j); omega))
      rw [← hcz]
      clear kaz cgz hdz hkz hEz hWz hDz tz hsz8 SY y0 y2 hcz
      obtain ⟨Ai, ci, hbi, -, -, -, ISI⟩ := is_ref KZ.out CZ.out RZ.out.ref (by rw [HHF.out]) (by omega)
      have HBI := Lib.hid hbi
      have ISI := Lib.hid ISI
      clear hbi
      obtain ⟨u0, u1, u2'⟩ := CBx.cells HBI.out
      go_wp2_with (go_at_call 13; refine stop ?_)
      unfold Stop
      clear u0 u1 u2'
      refine (ISI.out wz (Turn.refl _ _)).mono ?_
      rintro r wy ⟨rfl, ty⟩
      have KY := Lib.hid (KZ.out.quiet ty)
      have RY := Lib.hid (RZ.out.quiet ty)
      have TY := Lib.hid (TZ.out.trans ty (fun _ _ h => h))
      clear ty ISI HBI RZ KZ TZ
      have hi30 : i < 30 := by have := HIL.out; have := HGL.out; omega
      have hwi : IntKind.i64.wrap ((i : Int) + 1) = (i : Int) + 1 := IntWalk.i64_in _ (by omega)
      go_wp2
      go_roundw
      case rel => exact ⟨i + 1, cz, dz, kz, Dz, Ez, by have := HIL.out; omega, by go_num, rfl, KY.out, CZ.out, RY.out, WZ.out, LZ.out, DZ.out, TY.out⟩
      case measure => simp [intOf]; have := HIL.out; omega
    by_cases z2 : f.k = 2
    · rw [z2] at y0
      obtain ⟨hnx, Ar, cr, hbr, hlr, hAr, hcr⟩ := R6.out
      have HBR := Lib.hid hbr
      have RK := rchange_any (fun j => (D j ∨ E j) ∨ j = x) (k.t : Int) (hf : Int) Ar cr k.L f.A f.c fb w6 (hlr.turn (N' := fun j => (D j ∨ E j) ∨ j = x) (Turn.refl (fun _ => False) _) (fun _ h => h.elim) (fun _ _ h => h)) hAr hcr (by have := HLB.out; have := HGL.out; omega) (by omega) (by have := HCG.out.iv.turn; unfold mostS at this; omega) (by omega) (by omega) (Bts.of_sl SB.out.sl) ABB.out.1 (by have := ABB.out.2.2; omega)
      obtain ⟨nk, hnk⟩ : ∃ n, n = k.L.length := ⟨_, rfl⟩
      rw [← hnk, ← HLBB.out] at RK
      rw [← hnk] at HBR
      have RK := Lib.hid RK
      obtain ⟨u0, u1, u2'⟩ := CBx.cells HBR.out
      clear hbr hlr hAr hcr hnk
      go_wp2_with (go_at_call 17; refine stop ?_)
      unfold Stop
      clear u0 u1 u2'
      refine RK.out.mono ?_
      rintro r w7 ⟨A7, c7, rfl, q7, a7, k7, t7⟩
      obtain ⟨CF, hCF⟩ : ∃ CF, CF = cstC (changeT k.t (hf : Int) fb) (hf : Int) A7 (changeL k.t (hf : Int) k.L fb).length c7 := ⟨_, rfl⟩
      rw [show cstV (changeT k.t (hf : Int) fb) (hf : Int) A7 (changeL k.t (hf : Int) k.L fb).length c7 = .agg CF by rw [hCF]; rfl]
      have KC := Lib.hid (show (Tryd.prog.info? 33).map (·.size) = some CF.size ∧ 3 = CF.size ∧ CF.all (·.oneCell') = true by rw [hCF]; exact cst_facts _ _ _ _ _)
      have X7 := Lib.hid (show w7.heap[x]? = some (.cells (cstC k.t (hf : Int) Ar nk cr) 33 (0, 0)) from t7.heap HBR.out (fun h => h))
      have R8 := Lib.hid (R6.out.store q7 t7 hCF a7 k7 (fun j h => h.elim (fun h => K6.out.ld.lt j h) (fun h => K6.out.lt j h)))
      obtain ⟨w8, hw8⟩ : ∃ w8, w8 = w7.setRow x CF := ⟨_, rfl⟩
      have t8 : Turn (fun j => j = x) w7 w8 := by rw [hw8]; exact (Turn.refl _ _).setRow _ _ (fun _ => rfl)
      have t68 : Turn (fun j => j = x) w6 w8 := (t7.mono (fun _ _ h => h.elim)).trans t8 (fun _ _ h => h)
      have Y8 := t68.heap Y6.out HYX.out
      have K8 := Lib.hid (show KAt w8 g c n d k D E from (K6.out.quiet t7).apart X7.out t8 (fun h => hnx (.inl h)) (fun h => hnx (.inr h)) (by have := HXW.out; have := hG.1; omega))
      have T8 := Lib.hid (show Turn (fun _ => False) w w8 from T6.out.trans t68 (fun j hj e => by have e : j = x := e; have := HXW.out; omega))
      have SB8 := Lib.hid (SB.out.turn (N' := fun j => D j ∨ E j) t68 (fun j e => by have e : j = x := e; have := HXW.out; omega) (fun j _ h => h.elim (HDE.out.1 j) (HDE.out.2 j)))
      rw [← hw8] at R8
      obtain ⟨ee, hee⟩ : ∃ e, e = changeE k.t (hf : Int) fb := ⟨_, rfl⟩
      rw [← hee]
      have HEE := Lib.hid hee
      have y2 : w8.cell? ⟨y, 2, none⟩ = some (.slice f.A lb f.c) := by rw [cell_of_row _ _ _ _ _ _ Y8]; rfl
      clear hCF q7 a7 k7 t7 t8 t68 y0 hee
      go_upto_region 24 with (refine wpList_store_row rfl _ _ _ rfl x CF rfl rfl 33 _ X7.out KC.out.1 KC.out.2.1 KC.out.2.2 ?_)
      rw [← hw8]
      clear hw8
      have KP := kturn_good K8.out HCG.out f.A f.c fb (by omega) SB8.out ABB.out.1 ABB.out.2.1 (by have := ABB.out.2.2; omega) (by have := HWB.out; have := HGL.out; omega)
      rw [← HHF.out, ← HEE.out, ← HLBB.out] at KP
      have KP := Lib.hid KP
      go_wp2_with (go_at_call 18; refine stop ?_)
      unfold Stop
      refine KP.out.mono ?_
      rintro r wz ⟨dz, kz, Dz, Ez, rfl, kaz, cgz, hkt, hkL, hWz, hDz, hEz, tz⟩
      obtain ⟨cz, hcz⟩ : ∃ cz, cz = c := ⟨_, rfl⟩
      have KZ := Lib.hid (show KAt wz g cz n dz kz Dz Ez by rw [hcz]; exact kaz)
      have CZ := Lib.hid cgz
      have RZ := Lib.hid (show RefX wz x kz.t (hf : Int) kz.L (fun j => Dz j ∨ Ez j) by
        rw [hkt, hkL]
        exact R8.out.turn tz (fun _ h => h) (fun j hj h => h.elim (fun h => (hDz j h).elim .inl (fun h => by have := h.1; omega)) (fun h => (hEz j h).elim .inr (fun h => by have := h.1; omega))))
      have WZ := Lib.hid (show dz.W.length ≤ 20 * (i + 1) by have := HWB.out; have := HHF.out; omega)
      have LZ := Lib.hid (show kz.L.length ≤ 1 + (i + 1) by rw [hkL]; have := changed_le (t := (k.t : Int)) (half := (hf : Int)) (L := k.L) (b := fb); have := HLB.out; omega)
      have hsz8 := T8.out.size
      have DZ := Lib.hid (show (∀ j, Dz j → w.heap.size ≤ j) ∧ (∀ j, Ez j → w.heap.size ≤ j) from ⟨fun j h => (hDz j h).elim (HDE.out.1 j) (fun h => by have := h.1; omega), fun j h => (hEz j h).elim (HDE.out.2 j) (fun h => by have := h.1; omega)⟩)
      have TZ := Lib.hid (show Turn (fun _ => False) w wz from T8.out.trans tz (fun j hj h => by have := h.elim (HDE.out.1 j) (HDE.out.2 j); omega))
      have HCZ := Lib.hid hcz
      rw [← hcz]
      clear kaz cgz hkt hkL hcz hWz hDz hEz tz hsz8 KP y2 Y8
      obtain ⟨Ai, ci, hbi, -, -, -, ISI⟩ := is_ref KZ.out CZ.out RZ.out.ref (by rw [HHF.out]) (by omega)
      have HBI := Lib.hid hbi
      have ISI := Lib.hid ISI
      clear hbi
      obtain ⟨u0, u1, u2'⟩ := CBx.cells HBI.out
      go_wp2_with (go_at_call 13; refine stop ?_)
      unfold Stop
      clear u0 u1 u2'
      refine (ISI.out wz (Turn.refl _ _)).mono ?_
      rintro r wy ⟨rfl, ty⟩
      have KY := Lib.hid (KZ.out.quiet ty)
      have RY := Lib.hid (RZ.out.quiet ty)
      have TY := Lib.hid (TZ.out.trans ty (fun _ _ h => h))
      clear ty ISI HBI RZ KZ TZ
      have hi30 : i < 30 := by have := HIL.out; have := HGL.out; omega
      have hwi : IntKind.i64.wrap ((i : Int) + 1) = (i : Int) + 1 := IntWalk.i64_in _ (by omega)
      go_wp2
      go_roundw
      case rel => exact ⟨i + 1, cz, dz, kz, Dz, Ez, by have := HIL.out; omega, by go_num, rfl, KY.out, CZ.out, RY.out, WZ.out, LZ.out, DZ.out, TY.out⟩
      case measure => simp [intOf]; have := HIL.out; omega
    have e0 : (f.k == 0) = false := beq_false_of_ne z0
    have e1 : (f.k == 1) = false := beq_false_of_ne z1
    have e2 : (f.k == 2) = false := beq_false_of_ne z2
    have e0' : decide (f.k = 0) = false := decide_eq_false z0
    have e1' : decide (f.k = 1) = false := decide_eq_false z1
    have e2' : decide (f.k = 2) = false := decide_eq_false z2
    have OP := Lib.hid (kopen_good K6.out.ld HCG.out h2 (by omega) (by have := HWB.out; have := HGL.out; omega))
    obtain ⟨z, hz⟩ : ∃ z, z = f.k := ⟨_, rfl⟩
    rw [← hz] at e0 e1 e2 e0' e1' e2' y0
    clear hz z0 z1 z2
    · go_wp2_with (go_at_call 11; refine stop ?_)
      unfold Stop
      refine OP.out.mono ?_
      rintro r wz ⟨cz, Dz, Ez, rfl, kaz, hDz, hEz, tz⟩
      obtain ⟨dz, hdz⟩ : ∃ dz, dz = d := ⟨_, rfl⟩
      obtain ⟨kz, hkz⟩ : ∃ kz, kz = k := ⟨_, rfl⟩
      have KZ := Lib.hid (show KAt wz g cz n dz kz Dz Ez by rw [hdz, hkz]; exact kaz)
      have CZ := Lib.hid (show CG dz n kz by rw [hkz, hdz]; exact HCG.out)
      have RZ := Lib.hid (show RefX wz x kz.t (hf : Int) kz.L (fun j => Dz j ∨ Ez j) by
        rw [hkz]
        exact R6.out.turn tz (fun _ h => .inl h) (fun j hj h => h.elim (fun h => (hDz j h).elim .inl (fun h => by have := h.1; omega)) (fun h => by have := hEz j h; omega)))
      have WZ := Lib.hid (show dz.W.length ≤ 20 * (i + 1) by rw [hdz]; have := HWB.out; omega)
      have LZ := Lib.hid (show kz.L.length ≤ 1 + (i + 1) by rw [hkz]; have := HLB.out; omega)
      have hsz8 := T6.out.size
      have DZ := Lib.hid (show (∀ j, Dz j → w.heap.size ≤ j) ∧ (∀ j, Ez j → w.heap.size ≤ j) from ⟨fun j h => (hDz j h).elim (HDE.out.1 j) (fun h => by have := h.1; omega), fun j h => Nat.le_trans hsz8 (hEz j h)⟩)
      have TZ := Lib.hid (show Turn (fun _ => False) w wz from T6.out.trans tz (fun j hj h => by have := HDE.out.1 j h; omega))
      clear kaz hdz hkz hDz hEz tz hsz8 OP y0 y2
      obtain ⟨Ai, ci, hbi, -, -, -, ISI⟩ := is_ref KZ.out CZ.out RZ.out.ref (by rw [HHF.out]) (by omega)
      have HBI := Lib.hid hbi
      have ISI := Lib.hid ISI
      clear hbi
      obtain ⟨u0, u1, u2'⟩ := CBx.cells HBI.out
      go_wp2_with (go_at_call 13; refine stop ?_)
      unfold Stop
      clear u0 u1 u2'
      refine (ISI.out wz (Turn.refl _ _)).mono ?_
      rintro r wy ⟨rfl, ty⟩
      have KY := Lib.hid (KZ.out.quiet ty)
      have RY := Lib.hid (RZ.out.quiet ty)
      have TY := Lib.hid (TZ.out.trans ty (fun _ _ h => h))
      clear ty ISI HBI RZ KZ TZ
      have hi30 : i < 30 := by have := HIL.out; have := HGL.out; omega
      have hwi : IntKind.i64.wrap ((i : Int) + 1) = (i : Int) + 1 := IntWalk.i64_in _ (by omega)
      go_wp2
      go_roundw
      case rel => exact ⟨i + 1, cz, dz, kz, Dz, Ez, by have := HIL.out; omega, by go_num, rfl, KY.out, CZ.out, RY.out, WZ.out, LZ.out, DZ.out, TY.out⟩
      case measure => simp [intOf]; have := HIL.out; omega
set_option maxHeartbeats 4000000 in
theorem chestPlays_of (a0 : Int) (A : Option Addr) (c0 : Nat) (l : List Ac) (w : World) (hG : Glob w) (hl : Acs w w.heap.size A l) (hA : A = none → c0 = 0) (hm : l.length ≤ maxLen) (hb : -9223372036854775808 ≤ a0 ∧ a0 ≤ 9223372036854775807) :
    Calls Tryd.prog 3 #[.int .i64 a0, .slice A l.length c0] w fun r w' => r = .returned (.bool true) ∧ Turn (fun _ => False) w w' := by
  by_cases h40 : 40 < a0
  · have AW := Lib.hid (fun (w' : World) (t : Turn (fun _ => False) w w') => awake14 w' (glob_turn hG t))
    have GRH := Lib.hid (great14_any A c0 l w hl hm)
    have d40 : decide ((40 : Int) < a0) = true := decide_eq_true h40
    clear hl hm hA
    go_enter Tryd.func3, Tryd.ntmps3
    go_wp2_with (go_at_call 8; refine stop ?_)
    unfold Stop
    refine GRH.out.mono ?_
    rintro r w1 ⟨v, rfl, hv, hw⟩
    rw [hw]
    clear GRH hw w1 hv
    cases v <;>
    · go_wp2_with (go_at_call 9; refine stop ?_)
      unfold Stop
      refine (AW.out w (Turn.refl _ _)).mono ?_
      rintro r w6 ⟨rfl, t6⟩
      have T6 := Lib.hid t6
      clear t6
      go_wp2
      go_ret
      exact ⟨rfl, T6.out⟩
  by_cases h2 : 2 ≤ a0
  · obtain ⟨n, rfl⟩ : ∃ n : Nat, a0 = (n : Int) := ⟨a0.toNat, by omega⟩
    exact chestPlays_main n (by omega) (by omega) A c0 l w hG hl hA hm
  have AW := Lib.hid (fun (w' : World) (t : Turn (fun _ => False) w w') => awake14 w' (glob_turn hG t))
  have GRH := Lib.hid (great14_any A c0 l w hl hm)
  have d40 : decide ((40 : Int) < a0) = false := decide_eq_false h40
  have d2 : decide (a0 < 2) = true := decide_eq_true (by omega)
  have NW := Lib.hid (show Calls Tryd.prog 10 #[.int .i64 a0] w fun r w' => ∃ p, r = .returned (.pointer p) ∧ Turn (fun _ => False) w w' ∧ ∀ w2, w2 = w' → Calls Tryd.prog 11 #[.pointer p] w2 fun r w' => r = .returned (.tuple #[.pointer none, .int .i64 1]) ∧ w' = w2 from by
    by_cases h1 : 1 ≤ a0
    · obtain rfl : a0 = ((1 : Nat) : Int) := by omega
      refine (LD.new 1 (by omega) (by omega) w hG).mono ?_
      rintro r w' ⟨g, rfl, ld, t⟩
      exact ⟨_, rfl, t, fun w2 e => by subst e; exact kopen_small _ g 1 _ _ ld (by omega)⟩
    · refine (new_none a0 (by omega) w).mono ?_
      rintro r w' ⟨rfl, rfl⟩
      exact ⟨none, rfl, Turn.refl _ _, fun w2 _ => kopen_nil w2⟩)
  clear hl hm hA h2 h40 hb
  go_enter Tryd.func3, Tryd.ntmps3
  go_wp2_with (go_at_call 8; refine stop ?_)
  unfold Stop
  refine GRH.out.mono ?_
  rintro r w1 ⟨v, rfl, hv, hw⟩
  rw [hw]
  clear GRH hw w1 hv
  cases v with
  | true =>
    go_wp2_with (go_at_call 9; refine stop ?_)
    unfold Stop
    refine (AW.out w (Turn.refl _ _)).mono ?_
    rintro r w6 ⟨rfl, t6⟩
    have T6 := Lib.hid t6
    clear t6
    go_wp2
    go_ret
    exact ⟨rfl, T6.out⟩
  | false =>
    go_wp2_with (go_at_call 10; refine stop ?_)
    unfold Stop
    refine NW.out.mono ?_
    rintro r w1 ⟨p, rfl, t1, ho⟩
    have HO := Lib.hid (ho w1 rfl)
    have T1 := Lib.hid t1
    clear NW t1 ho
    go_wp2_with (go_at_call 11; refine stop ?_)
    unfold Stop
    refine HO.out.mono ?_
    rintro r w2 ⟨rfl, hw⟩
    rw [hw]
    clear hw HO
    go_wp2_with (go_at_call 9; refine stop ?_)
    unfold Stop
    refine (AW.out w1 T1.out).mono ?_
    rintro r w6 ⟨rfl, t6⟩
    have T6 := Lib.hid (T1.out.trans t6 (fun _ _ h => h))
    clear t6
    go_wp2
    go_ret
    exact ⟨rfl, T6.out⟩
theorem plays_law (a0 : Int) (A : Option Addr) (c : Nat) (l : List Ac) (W : World) (w0 : (Lit.int .i64 a0).wf = true) (s : Acs W W.heap.size A l) (m : l.length ≤ maxLen) (hA : A = none → c = 0) (hc : l.length ≤ c) (hG : Glob W) :
    Calls Tryd.prog 3 #[.int .i64 a0, .slice A l.length c] W fun r w' => r = .returned (.bool true) ∧ Below W.heap.size W w' :=
  (chestPlays_of a0 A c l W hG s hA m (bounds_i64 w0)).mono fun _ _ h => to_below14 h
end Go.Proofs.YtfiopkehpcipdaaDoor
