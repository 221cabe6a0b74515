/- Merged: ChestKeeps: the law's walk. -/
import Derived.Test.YtajdcekkmikbcaaDoorM50
namespace Go.Proofs.YtajdcekkmikbcaaDoor
section
set_option linter.unusedVariables false
set_option linter.unusedSimpArgs false
open Go.RowKit
set_option maxRecDepth 100000
set_option maxHeartbeats 16000000 in
theorem chestKeeps_of (A : Option Addr) (c0 : Nat) (l : List Ac) (w : World) (hG : Glob w) (hl : Acs w w.heap.size A l) (hA : A = none → c0 = 0) (hm : l.length ≤ maxLen) :
    Calls Tryd.prog 5 #[.slice A l.length c0] w fun r w' => r = .returned (.bool true) ∧ Turn (fun _ => False) w w' := by
  have AW := Lib.hid (fun (w' : World) (t : Turn (fun _ => False) w w') => awake14 w' (glob_turn hG t))
  have GRH := Lib.hid (great14_any A c0 l w hl hm)
  have HL := Lib.hid hl
  have NW := Lib.hid (LD.new 24 (by omega) (by omega) w hG)
  obtain ⟨ll, hll⟩ : ∃ x, x = l.length := ⟨_, rfl⟩
  rw [← hll] at GRH ⊢
  have HLL := Lib.hid hll
  clear hl hll hm
  go_enter Tryd.func5, Tryd.ntmps5
  go_wp2_with (go_at_call 8; refine stop ?_)
  unfold Stop
  refine GRH.out.mono ?_
  rintro r w1 ⟨v, rfl, hv, hw⟩
  rw [hw]
  clear GRH hw w1
  cases v with
  | true =>
    clear hv
    go_wp2_with (go_at_call 9; refine stop ?_)
    unfold Stop
    refine (AW.out w (Turn.refl _ _)).mono ?_
    rintro r w6 ⟨rfl, t6⟩
    have T6 := Lib.hid t6
    clear t6
    go_wp2
    go_ret
    exact ⟨rfl, T6.out⟩
  | false =>
  have HGR := Lib.hid (hv rfl)
  clear hv
  go_wp2_with (go_at_call 10; refine stop ?_)
  unfold Stop
  refine NW.out.mono ?_
  rintro r w1 ⟨g, rfl, l1, t1⟩
  obtain ⟨b1, b2, b3, b4⟩ := chest_new (n := 24) (by omega)
  obtain ⟨wi0, wi1⟩ := new_wi (fnd_new 24)
  have OP := Lib.hid (kopen_any w1 g 24 (Dr.new 24) _ l1 rfl (by omega) (by omega) (by show 0 + 24 / 2 + 1024 < 10000; omega))
  have T1 := Lib.hid t1
  have HB := Lib.hid (And.intro b1 (And.intro b2 (And.intro b3 b4)))
  have WIS := Lib.hid (And.intro wi0 wi1)
  clear NW l1 t1 b1 b2 b3 b4 wi0 wi1
  go_wp2_with (go_at_call 11; refine stop ?_)
  unfold Stop
  refine OP.out.mono ?_
  rintro r w2 ⟨D2, hD2, t2, hpost⟩
  rcases hpost with ⟨-, c, E2, rfl, ka, hE2⟩ | ⟨he, -⟩
  rotate_left 1
  · exact absurd HB.out.1 he
  have cg2 := HB.out.2.1
  rw [HB.out.2.2.2] at ka cg2
  have ST2 := Lib.hid (HSt.first ka cg2 rfl rfl rfl HB.out.2.2.1 WIS.out.1 WIS.out.2)
  have KL2 := Lib.hid (And.intro ka.ld.lt ka.lt)
  have TW := Lib.hid (show Turn (fun _ => False) w w2 from T1.out.trans t2 (fun k hk h => by have := h.1; omega))
  have DE := Lib.hid (show (∀ k, D2 k → w.heap.size ≤ k) ∧ (∀ k, E2 k → w.heap.size ≤ k) from ⟨fun k hk => (hD2 k hk).elim (fun h => h.1) (fun h => Nat.le_trans T1.out.size h.1), fun k hk => Nat.le_trans T1.out.size (hE2 k hk).1⟩)
  clear OP ka cg2 t2 hD2 hE2 HB WIS T1
  go_upto_region 9 with fail
  obtain ⟨w3, hw3⟩ : ∃ w3, w3 = ((w2.alloc (.cells #[] 5)).alloc (.cells #[.slice (some ⟨w2.heap.size, 0, none⟩) 0 0] 36)).alloc (.cells #[.int .i64 1, .slice (some ⟨w2.heap.size + 1, 0, none⟩) 1 1] 53) := ⟨_, rfl⟩
  obtain ⟨b0, hb0⟩ : ∃ x, x = w2.heap.size + 1 + 1 := ⟨_, rfl⟩
  have t3 : Turn (fun _ => False) w2 w3 := by rw [hw3]; exact (((Turn.refl _ _).alloc _).alloc _).alloc _
  have hG2 := hG.1
  have TR3 := Lib.hid (show TrS w3 b0 1 (fun j => D2 j ∨ E2 j) [(1, [[]])] from try_first hw3 hb0 (fun j h => h.elim (KL2.out.1 j) (KL2.out.2 j)) (by have := TW.out.size; omega))
  have ST3 := Lib.hid (ST2.out.quiet t3)
  have T3 := Lib.hid (TW.out.trans t3 (fun _ _ h => h))
  have HB0 := Lib.hid (show w.heap.size ≤ b0 by have := TW.out.size; omega)
  rw [← hw3, ← hb0]
  clear hw3 hb0 t3 ST2 KL2 TW hG2
  go_wp2
  go_loopw [4, 5, 6, 7, 8, 9, 10] (fun cv ev tv uv nv sv iv wr => ∃ (i c cur t sure len ee bb cc : Nat) (on : Bool) (ts : List (Nat × List (List B8))) (D E : Nat → Prop), i ≤ ll ∧ iv = .int .i64 (i : Int) ∧ cv = .pointer (some ⟨c, 0, none⟩) ∧ ev = .int .i64 (ee : Int) ∧ tv = .slice (some ⟨bb, 0, none⟩) ts.length cc ∧ uv = .int .i64 (cur : Int) ∧ nv = .int .i64 (t : Int) ∧ sv = .int .i64 (sure : Int) ∧ KpI w wr g c i t sure len on bb cc cur ts D E) (fun _ _ _ _ _ _ iv _ => ll - (intOf iv).toNat)
  case atStart => exact ⟨0, c, 0, 1, 1, 1, 0, b0, 1, true, [(1, [[]])], D2, E2, by omega, rfl, rfl, rfl, rfl, rfl, rfl, rfl, ST3.out, TR3.out, Nat.zero_lt_one, Nat.le_refl _, fun p hp => (by rw [List.mem_singleton] at hp; subst hp; exact ⟨Nat.le_refl _, by show 1 ≤ _; omega, fun x hx => (by rw [List.mem_singleton] at hx; subst hx; exact Nat.zero_le _)⟩), fun _ => ⟨_, rfl, rfl⟩, DE.out, HB0.out, T3.out⟩
  case round =>
    obtain ⟨i, c, cur, t, sure, len, ee, bb, cc, on, ts, D, E, hi, rfl, rfl, rfl, rfl, rfl, rfl, rfl, inv⟩ := hrel
    clear ST3 TR3 T3 DE HB0
    have IN := Lib.hid inv
    clear inv
    obtain ⟨W5, eW5⟩ : ∃ W5, W5 = wr := ⟨_, rfl⟩
    subst eW5
    by_cases hil : i < ll
    rotate_left 1
    · have hie : i = ll := by omega
      have dl : decide ((i : Int) < (ll : Int)) = false := decide_eq_false (by omega)
      have dl' : decide (i < ll) = false := decide_eq_false hil
      clear hil hie hi
      go_wp2_with (go_at_call 9; refine stop ?_)
      unfold Stop
      refine (AW.out W5 IN.out.tw).mono ?_
      rintro r w6 ⟨rfl, t6⟩
      have T6 := Lib.hid (IN.out.tw.trans t6 (fun _ _ h => h))
      clear t6
      go_wp2
      go_ret
      exact ⟨rfl, T6.out⟩
    have HIL := Lib.hid hil
    have HGL := Lib.hid (show ll ≤ 30 from HGR.out.1)
    have dl : decide ((i : Int) < (ll : Int)) = true := decide_eq_true (by omega)
    have dl' : decide (i < ll) = true := decide_eq_true hil
    have hli : i < l.length := by rw [← HLL.out]; exact hil
    obtain ⟨f, hf_⟩ : ∃ f, f = l[i] := ⟨_, rfl⟩
    have hfi : l[i]? = some f := by rw [hf_]; exact List.getElem?_eq_getElem hli
    obtain ⟨hfok, ab, o, rfl, hbb, hrg⟩ := HL.out i f hfi
    have hact := HGR.out.2 f (List.mem_of_getElem? hfi)
    have hrg5 : W5.rangeAt ab (o + i * 4) [.int .i64 f.k, .int .i64 f.n, .slice f.A f.b.length f.c, .slice f.A' f.m.length f.c'] := fun j v hj => IN.out.tw.cell (hrg j v hj) (fun h => h)
    obtain ⟨fb, hfb⟩ : ∃ b, b = f.b := ⟨_, rfl⟩
    obtain ⟨lb, hlb⟩ : ∃ b, b = fb.length := ⟨_, rfl⟩
    obtain ⟨fm, hfm⟩ : ∃ b, b = f.m := ⟨_, rfl⟩
    obtain ⟨lm, hlm⟩ : ∃ b, b = fm.length := ⟨_, rfl⟩
    have KSA := Lib.hid (show (Tryd.prog.info? 38).map (·.size) = some 4 by kernel_rfl)
    obtain ⟨w6, hw6⟩ : ∃ w6, w6 = W5.alloc (.cells #[.int .i64 f.k, .int .i64 f.n, .slice f.A lb f.c, .slice f.A' lm f.c'] 38) := ⟨_, rfl⟩
    obtain ⟨y, hy⟩ : ∃ y, y = W5.heap.size := ⟨_, rfl⟩
    have t6 : Turn (fun _ => False) W5 w6 := by rw [hw6]; exact (Turn.refl _ _).alloc _
    have Y6 := Lib.hid (show w6.heap[y]? = some (.cells #[.int .i64 f.k, .int .i64 f.n, .slice f.A lb f.c, .slice f.A' lm f.c'] 38 (0, 0)) by rw [hw6, hy]; exact heap_alloc_new _ _)
    have I6 := Lib.hid (IN.out.quiet t6)
    have SB := Lib.hid (show SlN w6 (fun j => w.heap.size ≤ j) f.A (fb.map bv) from by
      rw [hfb]
      intro j u hu
      obtain ⟨ad, e, hb, hc⟩ := hfok.s j u hu
      exact ⟨ad, e, fun h => by omega, I6.out.tw.cell hc (fun h => h)⟩)
    have SM := Lib.hid (show SlN w6 (fun j => w.heap.size ≤ j) f.A' (fm.map bv) from by
      rw [hfm]
      intro j u hu
      obtain ⟨ad, e, hb, hc⟩ := hfok.s' j u hu
      exact ⟨ad, e, fun h => by omega, I6.out.tw.cell hc (fun h => h)⟩)
    have ABB := Lib.hid (show (f.A = none → f.c = 0) ∧ fb.length ≤ f.c ∧ fb.length ≤ 300 ∧ fm.length ≤ 80 from ⟨hfok.a, by rw [hfb]; exact hfok.c, by rw [hfb]; exact hact.1, by rw [hfm]; exact hact.2⟩)
    rw [hfb.symm, hfm.symm, hlb.symm, hlm.symm] at hrg5
    have HRG := Lib.hid hrg5
    have HLBB := Lib.hid hlb
    have HLMM := Lib.hid hlm
    have HYD := Lib.hid (show ¬ (D y ∨ E y) ∧ y ≠ bb from by rw [hy]; exact IN.out.fresh)
    have bk0 := hfok.k0
    have bk1 := hfok.k1
    have bn := And.intro hfok.n0 hfok.n1
    clear hrg hrg5 hfok hact hfi hf_ hbb hli hfb hlb hfm hlm t6
    go_upto_region 13 with (refine wpList_load_mid rfl 38 _ rfl ab (o + i * 4) rfl [.int .i64 f.k, .int .i64 f.n, .slice f.A lb f.c, .slice f.A' lm f.c'] _ HRG.out Tryd.underlying38 rfl KSA.out ?_)
    change Code.wp _ _ _ _ (W5.alloc (.cells #[.int .i64 f.k, .int .i64 f.n, .slice f.A lb f.c, .slice f.A' lm f.c'] 38))
    rw [← hw6, ← hy]
    clear hw6 hy
    have y0 : w6.cell? ⟨y, 0, none⟩ = some (.int .i64 f.k) := by rw [cell_of_row _ _ _ _ _ _ Y6.out]; rfl
    have hcur : (cur : Int) < (ts.length : Int) := by have := I6.out.cu; omega
    have hcur0 : (0 : Int) ≤ (cur : Int) := by omega
    have hcur1 : cur < ts.length := I6.out.cu
    have hi30 : i < 30 := by have := HIL.out; have := HGL.out; omega
    have hwi : IntKind.i64.wrap ((i : Int) + 1) = (i : Int) + 1 := IntWalk.i64_in _ (by omega)
    by_cases z0 : f.k = 0
    · as_aux_lemma =>
      rw [z0] at y0
      have y2 : w6.cell? ⟨y, 2, none⟩ = some (.slice f.A lb f.c) := by rw [cell_of_row _ _ _ _ _ _ Y6.out]; rfl
      have HK := hkeep_any w6 g c i t sure len on D E f.A f.c fb I6.out.st (by have := HIL.out; have := HGL.out; omega) (SB.out.turn (Turn.refl (fun _ => False) _) (fun _ h => h.elim) (fun j _ h => h.elim (I6.out.de.1 j) (I6.out.de.2 j))) ABB.out.1 ABB.out.2.1 (by have := ABB.out.2.2.1; omega)
      rw [← HLBB.out] at HK
      have HK := Lib.hid HK
      go_wp2_with (go_at_call 15; refine stop ?_)
      unfold Stop
      refine HK.out.mono ?_
      rintro r w7 ⟨e, on', q, D', E', rfl, st', hD', hE', tt, hcase⟩
      have MID := I6.out.mid hD' hE' tt
      have y27 : w7.cell? ⟨y, 2, none⟩ = some (.slice f.A lb f.c) := tt.cell y2 HYD.out.1
      have ht1 : t ≤ 1 + i := by have := I6.out.st; unfold HSt at this; exact this.1
      have SBW := Lib.hid (show SlN w7 (fun j => (D' j ∨ E' j) ∨ j = bb) f.A (fb.map bv) from SB.out.turn tt (fun j h => h.elim (I6.out.de.1 j) (I6.out.de.2 j)) (fun j _ h => h.elim (fun h => h.elim (MID.2.1.1 j) (MID.2.1.2 j)) (fun h => by rw [h]; exact I6.out.bl)))
      rcases hcase with ⟨hon, rfl, rfl, rfl⟩ | ⟨hon, rfl, he, rfl⟩ | ⟨rfl, rfl, rfl⟩
      rotate_left 1
      · have J7 := Lib.hid (I6.out.step st' hD' hE' tt (fun _ => I6.out.ln hon))
        clear st' hD' hE' tt HK y0 y2 y27 MID SBW ht1
        rcases he with rfl | rfl
        · go_wp2
          go_roundw
          case rel => exact ⟨i + 1, c, cur, t, sure, len, 4, bb, cc, true, ts, D', E', by have := HIL.out; omega, by go_num, rfl, rfl, rfl, rfl, rfl, rfl, J7.out⟩
          case measure => simp [intOf]; have := HIL.out; omega
        · go_wp2
          go_roundw
          case rel => exact ⟨i + 1, c, cur, t, sure, len, 18, bb, cc, true, ts, D', E', by have := HIL.out; omega, by go_num, rfl, rfl, rfl, rfl, rfl, rfl, J7.out⟩
          case measure => simp [intOf]; have := HIL.out; omega
      rotate_left 1
      · obtain ⟨⟨pt, pl⟩, hp⟩ : ∃ p, ts[cur]? = some p := ⟨_, List.getElem?_eq_getElem hcur1⟩
        obtain ⟨Al, cl, hcb, kl, al, ql⟩ := MID.1.cellL hp
        obtain ⟨vs, tx, sx⟩ := ql.vals
        obtain ⟨i0, hi, hz0, hz1, hz2⟩ := info_parts info_sl
        obtain ⟨np, hnp⟩ : ∃ n, n = pl.length := ⟨_, rfl⟩
        have hpl : pl.length ≤ 60 := by have := (I6.out.bd _ (List.mem_of_getElem? hp)).2.1; have h9 : pl.length ≤ 13 + i := this; have := HIL.out; have := HGL.out; omega
        have ONE := Lib.hid (show ∀ u ∈ vs, u.oneCell' = true from fun u hu => by
          obtain ⟨k, hk, e⟩ := List.mem_iff_getElem.1 hu
          have hk2 : k < pl.length := by have := tx.1; omega
          obtain ⟨Ai, ci, h1, -⟩ := tx.2 k pl[k] (List.getElem?_eq_getElem hk2)
          rw [List.getElem?_eq_getElem hk] at h1
          injection h1 with h1
          rw [← e, h1]; rfl)
        have NL := Lib.hid (show vs.length = np by rw [hnp]; exact tx.1)
        have SRC := Lib.hid (show ∀ w' : World, Turn (fun _ => False) w7 w' → ∀ (j : Nat) (u : Value), vs[j]? = some u → ∃ ad, Al = some ad ∧ w'.cell? (ad.add j) = some u from fun w' tq j u hu => by
          obtain ⟨ad, e, -, hc⟩ := sx j u hu
          exact ⟨ad, e, tq.cell hc (fun h => h)⟩)
        have FZ := Lib.hid (show ∀ w' : World, Turn (fun _ => False) w7 w' → w'.cell? ⟨bb, cur * 2 + 1, none⟩ = some (.slice Al np cl) ∧ w'.frozen? ⟨bb, cur * 2 + 1, none⟩ = false ∧ w'.cell? ⟨y, 2, none⟩ = some (.slice f.A lb f.c) from fun w' tq => by
          have hcb' := tq.cell hcb (fun h => h)
          have hy' := tq.cell y27 (fun h => h)
          obtain ⟨cu, ty, hh, -⟩ := (MID.1.turn tq (fun _ h => h.elim) (fun _ _ h => h)).nbk.1
          rw [← hnp] at hcb'
          exact ⟨hcb', frozen_of_row _ _ _ _ _ hh, hy'⟩)
        have AL := Lib.hid al
        have RES := Lib.hid (show ∀ (w' : World) (A2 : Option Addr) (n2 : Nat), Turn (fun _ => False) w7 w' → w'.ownsRow w7.heap.size 36 1 (.slice A2 (np + 1) n2) (np + 1) (vs ++ [.slice f.A lb f.c]) → KpI w (w'.setCell ⟨bb, cur * 2 + 1, none⟩ (.slice A2 (np + 1) n2)) g c (i + 1) t sure (len + 1) true bb cc cur (ts.set cur (pt, pl ++ [fb])) D' E' from fun w' A2 n2 tq ow => by
          have hl : (pl ++ [fb]).length = np + 1 := by rw [List.length_append, hnp]; rfl
          obtain ⟨A9, c9, e9, -, -, k9, a9⟩ := own_sl ow
          injection e9 with e91 _ e93
          subst e91; subst e93
          have hNq : ∀ j, (D' j ∨ E' j) ∨ j = bb → j < w7.heap.size := fun j h => h.elim (fun h => st'.lt j h) (fun h => by rw [h]; exact MID.1.lt)
          have tx' : TxtV w' (fun j => (D' j ∨ E' j) ∨ j = bb) (pl ++ [fb]) (vs ++ [.slice f.A lb f.c]) := by
            rw [HLBB.out]
            exact (tx.turn tq (fun _ h => h.elim) (fun _ _ h => h)).add ABB.out.2.1 ABB.out.1 (SBW.out.turn tq (fun _ h => h.elim) (fun _ _ h => h))
          rw [← hl]
          exact KpI.kept I6.out hp (st'.quiet tq) (MID.1.turn tq (fun _ h => h.elim) (fun _ _ h => h)) (MID.2.2.trans tq (fun _ _ h => h)) (by rw [hl]; exact k9) a9 (lstq_of ow tx' hNq) (by have := ABB.out.2.2.1; omega) (fun _ => by obtain ⟨q1, q2, q3⟩ := I6.out.ln hon; rw [hp] at q2; injection q2 with q2; rw [← q2] at q3; have q3 : pl.length = len := q3; omega) MID.2.1)
        rw [← hnp] at hpl hcb kl
        have HPL := Lib.hid hpl
        have HCC := Lib.hid (And.intro al kl)
        have HB1 := Lib.hid (show (Value.slice f.A lb f.c).oneCell' = true from rfl)
        obtain ⟨q, hq⟩ : ∃ q, q = max np 1 := ⟨_, rfl⟩
        have HQ := Lib.hid (show np ≤ q ∧ 1 ≤ q ∧ (q ≤ np ∨ np = 0) by omega)
        have TQ := Lib.hid (show ∀ w' : World, Gw w7.heap.size q (.slice f.A lb f.c) w7.drew w' → Turn (fun _ => False) w7 w' from fun w' k => Turn.of_below (stp_start (show Stp w7.drew w' from k.b) (Below.refl _ _)))
        clear hq
        clear hnp hp kl al ql tx sx MID st' hD' hE' tt HK y0 y2 hcb y27 hpl
        go_upto_region 28 with fail
        refine wp_region_rel_tail 15 188 (by kernel_rfl) (by kernel_rfl) (Gw w7.heap.size q (.slice f.A lb f.c)) ((.one ?_) :: (.one ?_) :: (.rel (G0 w7.heap.size 36)) :: (.one ?_) :: (.one ?_) :: (.one ?_) :: (.one ?_) :: (.one ?_) :: (.rel (GR w7.heap.size 36 np vs)) :: (.one ?_) :: (.one ?_) :: (.rel (G1 w7.heap.size 36 (.slice f.A lb f.c))) :: (.rel (GA w7.heap.size 36 np vs (.slice f.A lb f.c))) :: (.one ?_) :: (.one ?_) :: []) (by kernel_rfl) rfl (by kernel_rfl) Gw.refl Gw.trans ⟨G0.stable, GR.stable HQ.out.1, G1.stable HQ.out.2.1, GA.stable HQ.out.1 NL.out, trivial⟩ ?main
        case main =>
          simp only [List.take_succ_cons, List.take_zero, List.drop_succ_cons, List.drop_zero]
          iterate 2
            refine wpR_one (A' := ?_) Gw.refl (by rfl) _ rfl 188 (by rfl) (by rfl) ?_ ?_ ?_
            rotate_left 1
            · simp only [Act.put, List.setIfInBounds_toArray, List.set_cons_zero, List.set_cons_succ]; rfl
            · intro w1 hs hf K hK
              go_big_quiet_op
              first
                | go_big_quiet_on
                | (refine ⟨_, fun _ _ => rfl, ?_⟩; go_big_quiet_on)
              rfl
          refine wpR_rel (A' := ?_) (by rfl) ?_ ?_ ?_
          · intro w1 hs hf
            have hz : w7.heap.size ≤ w1.heap.size := Gw.size (w := w7.drew) hs
            refine does_list0 rfl ?_
            exact G0.new w1 hz
          rotate_left 1
          · intro x
            simp only [Act.put, List.setIfInBounds_toArray, List.set_cons_zero, List.set_cons_succ]; rfl
          intro x116
          iterate 4
            refine wpR_one (A' := ?_) Gw.refl (by rfl) _ rfl 188 (by rfl) (by rfl) ?_ ?_ ?_
            rotate_left 1
            · simp only [Act.put, List.setIfInBounds_toArray, List.set_cons_zero, List.set_cons_succ]; rfl
            · intro w1 hs hf K hK
              go_big_quiet_op
              first
                | go_big_quiet_on
                | (refine ⟨_, fun _ _ => rfl, ?_⟩; go_big_quiet_on)
              rfl
          refine wpR_one (A' := ?_) Gw.refl (by rfl) _ rfl 188 (by rfl) (by rfl) ?_ ?_ ?_
          rotate_left 1
          · simp only [Act.put, List.setIfInBounds_toArray, List.set_cons_zero, List.set_cons_succ]; rfl
          · intro w1 hs hf K hK
            refine cls_load_cell 31 (.tmp 120) rfl ⟨bb, cur * 2 + 1, none⟩ rfl (.slice Al np cl) (fun w h => by simp [go_sem, h]) (fun w2 h2 => (FZ.out w2 (TQ.out w2 (Gw.trans _ _ _ hs h2))).1) ?_
            refine hK _ ?_
            simp only [Act.put, List.setIfInBounds_toArray, List.set_cons_zero, List.set_cons_succ]
            rfl
          refine wpR_rel (A' := ?_) (by rfl) ?_ ?_ ?_
          · intro w1 hs hf
            have hz : w7.heap.size ≤ w1.heap.size := Gw.size (w := w7.drew) hs
            obtain ⟨v', w', hr, h3, h4⟩ := listAppend 31 w7.heap.size q (.slice f.A lb f.c) w1 x116 (AllF_at hf 0 rfl (by kernel_rfl)) hz Al cl np vs NL.out (SRC.out w1 (TQ.out w1 hs)) HCC.out.1 HCC.out.2 ONE.out (by have := HPL.out; omega)
            exact does_append _ _ _ _ _ v' rfl rfl rfl hr ⟨h3, h4⟩
          rotate_left 1
          · intro x
            simp only [Act.put, List.setIfInBounds_toArray, List.set_cons_zero, List.set_cons_succ]; rfl
          intro x122
          iterate 1
            refine wpR_one (A' := ?_) Gw.refl (by rfl) _ rfl 188 (by rfl) (by rfl) ?_ ?_ ?_
            rotate_left 1
            · simp only [Act.put, List.setIfInBounds_toArray, List.set_cons_zero, List.set_cons_succ]; rfl
            · intro w1 hs hf K hK
              go_big_quiet_op
              first
                | go_big_quiet_on
                | (refine ⟨_, fun _ _ => rfl, ?_⟩; go_big_quiet_on)
              rfl
          refine wpR_one (A' := ?_) Gw.refl (by rfl) _ rfl 188 (by rfl) (by rfl) ?_ ?_ ?_
          rotate_left 1
          · simp only [Act.put, List.setIfInBounds_toArray, List.set_cons_zero, List.set_cons_succ]; rfl
          · intro w1 hs hf K hK
            refine cls_load_cell 36 (.tmp 123) rfl ⟨y, 2, none⟩ rfl (.slice f.A lb f.c) (fun w h => by simp [go_sem, h]) (fun w2 h2 => (FZ.out w2 (TQ.out w2 (Gw.trans _ _ _ hs h2))).2.2) ?_
            refine hK _ ?_
            simp only [Act.put, List.setIfInBounds_toArray, List.set_cons_zero, List.set_cons_succ]
            rfl
          refine wpR_rel (A' := ?_) (by rfl) ?_ ?_ ?_
          · intro w1 hs hf
            have hz : w7.heap.size ≤ w1.heap.size := Gw.size (w := w7.drew) hs
            refine does_build_slT (.tmp 124) rfl f.A lb f.c rfl ?_
            exact G1.new w1 hz
          rotate_left 1
          · intro x
            simp only [Act.put, List.setIfInBounds_toArray, List.set_cons_zero, List.set_cons_succ]; rfl
          intro x125
          refine wpR_rel (A' := ?_) (by rfl) ?_ ?_ ?_
          · intro w1 hs hf
            have hz : w7.heap.size ≤ w1.heap.size := Gw.size (w := w7.drew) hs
            obtain ⟨v', w', hr, h3, h4⟩ := listPush 31 w7.heap.size q (.slice f.A lb f.c) w1 x122 x125 np vs (AllF_at hf 1 rfl (by kernel_rfl)) (AllF_at hf 0 rfl (by kernel_rfl)) hz NL.out HB1.out (by have := HPL.out; omega) HQ.out.2.2
            exact does_append _ _ _ _ _ v' rfl rfl rfl hr ⟨h3, h4⟩
          rotate_left 1
          · intro x
            simp only [Act.put, List.setIfInBounds_toArray, List.set_cons_zero, List.set_cons_succ]; rfl
          intro x126
          iterate 2
            refine wpR_one (A' := ?_) Gw.refl (by rfl) _ rfl 188 (by rfl) (by rfl) ?_ ?_ ?_
            rotate_left 1
            · simp only [Act.put, List.setIfInBounds_toArray, List.set_cons_zero, List.set_cons_succ]; rfl
            · intro w1 hs hf K hK
              go_big_quiet_op
              first
                | go_big_quiet_on
                | (refine ⟨_, fun _ _ => rfl, ?_⟩; go_big_quiet_on)
              rfl
          intro w9 hs hf
          obtain ⟨h126, -⟩ := hf
          obtain ⟨g9, cap9, e9, own9⟩ := h126.own NL.out
          subst e9
          have RE := Lib.hid (RES.out w9 _ cap9 (TQ.out w9 hs) own9)
          obtain ⟨cb9, zb9, y9⟩ := FZ.out w9 (TQ.out w9 hs)
          clear hs h126 own9
          go_wp2
          go_roundw
          case rel => exact ⟨i + 1, c, cur, t, sure, len + 1, 0, bb, cc, true, ts.set cur (pt, pl ++ [fb]), D', E', by have := HIL.out; omega, by go_num, rfl, rfl, by rw [List.length_set], rfl, rfl, rfl, RE.out⟩
          case measure => simp [intOf]; have := HIL.out; omega
      · obtain ⟨⟨pt, pl⟩, hp⟩ : ∃ p, ts[cur]? = some p := ⟨_, List.getElem?_eq_getElem hcur1⟩
        obtain ⟨Al, cl, hcb, kl, al, ql⟩ := MID.1.cellL hp
        obtain ⟨vs, tx, sx⟩ := ql.vals
        obtain ⟨i0, hi, hz0, hz1, hz2⟩ := info_parts info_sl
        obtain ⟨np, hnp⟩ : ∃ n, n = pl.length := ⟨_, rfl⟩
        have hpl : pl.length ≤ 60 := by have := (I6.out.bd _ (List.mem_of_getElem? hp)).2.1; have h9 : pl.length ≤ 13 + i := this; have := HIL.out; have := HGL.out; omega
        have ONE := Lib.hid (show ∀ u ∈ vs, u.oneCell' = true from fun u hu => by
          obtain ⟨k, hk, e⟩ := List.mem_iff_getElem.1 hu
          have hk2 : k < pl.length := by have := tx.1; omega
          obtain ⟨Ai, ci, h1, -⟩ := tx.2 k pl[k] (List.getElem?_eq_getElem hk2)
          rw [List.getElem?_eq_getElem hk] at h1
          injection h1 with h1
          rw [← e, h1]; rfl)
        have NL := Lib.hid (show vs.length = np by rw [hnp]; exact tx.1)
        have SRC := Lib.hid (show ∀ w' : World, Turn (fun _ => False) w7 w' → ∀ (j : Nat) (u : Value), vs[j]? = some u → ∃ ad, Al = some ad ∧ w'.cell? (ad.add j) = some u from fun w' tq j u hu => by
          obtain ⟨ad, e, -, hc⟩ := sx j u hu
          exact ⟨ad, e, tq.cell hc (fun h => h)⟩)
        have FZ := Lib.hid (show ∀ w' : World, Turn (fun _ => False) w7 w' → w'.cell? ⟨bb, cur * 2 + 1, none⟩ = some (.slice Al np cl) ∧ w'.frozen? ⟨bb, cur * 2 + 1, none⟩ = false ∧ w'.cell? ⟨y, 2, none⟩ = some (.slice f.A lb f.c) from fun w' tq => by
          have hcb' := tq.cell hcb (fun h => h)
          have hy' := tq.cell y27 (fun h => h)
          obtain ⟨cu, ty, hh, -⟩ := (MID.1.turn tq (fun _ h => h.elim) (fun _ _ h => h)).nbk.1
          rw [← hnp] at hcb'
          exact ⟨hcb', frozen_of_row _ _ _ _ _ hh, hy'⟩)
        have AL := Lib.hid al
        have RES := Lib.hid (show ∀ (w' : World) (A2 : Option Addr) (n2 : Nat), Turn (fun _ => False) w7 w' → w'.ownsRow w7.heap.size 36 1 (.slice A2 (np + 1) n2) (np + 1) (vs ++ [.slice f.A lb f.c]) → KpI w (w'.setCell ⟨bb, cur * 2 + 1, none⟩ (.slice A2 (np + 1) n2)) g c (i + 1) t sure len false bb cc cur (ts.set cur (pt, pl ++ [fb])) D' E' from fun w' A2 n2 tq ow => by
          have hl : (pl ++ [fb]).length = np + 1 := by rw [List.length_append, hnp]; rfl
          obtain ⟨A9, c9, e9, -, -, k9, a9⟩ := own_sl ow
          injection e9 with e91 _ e93
          subst e91; subst e93
          have hNq : ∀ j, (D' j ∨ E' j) ∨ j = bb → j < w7.heap.size := fun j h => h.elim (fun h => st'.lt j h) (fun h => by rw [h]; exact MID.1.lt)
          have tx' : TxtV w' (fun j => (D' j ∨ E' j) ∨ j = bb) (pl ++ [fb]) (vs ++ [.slice f.A lb f.c]) := by
            rw [HLBB.out]
            exact (tx.turn tq (fun _ h => h.elim) (fun _ _ h => h)).add ABB.out.2.1 ABB.out.1 (SBW.out.turn tq (fun _ h => h.elim) (fun _ _ h => h))
          rw [← hl]
          exact KpI.kept I6.out hp (st'.quiet tq) (MID.1.turn tq (fun _ h => h.elim) (fun _ _ h => h)) (MID.2.2.trans tq (fun _ _ h => h)) (by rw [hl]; exact k9) a9 (lstq_of ow tx' hNq) (by have := ABB.out.2.2.1; omega) (fun h => by cases h) MID.2.1)
        rw [← hnp] at hpl hcb kl
        have HPL := Lib.hid hpl
        have HCC := Lib.hid (And.intro al kl)
        have HB1 := Lib.hid (show (Value.slice f.A lb f.c).oneCell' = true from rfl)
        obtain ⟨q, hq⟩ : ∃ q, q = max np 1 := ⟨_, rfl⟩
        have HQ := Lib.hid (show np ≤ q ∧ 1 ≤ q ∧ (q ≤ np ∨ np = 0) by omega)
        have TQ := Lib.hid (show ∀ w' : World, Gw w7.heap.size q (.slice f.A lb f.c) w7.drew w' → Turn (fun _ => False) w7 w' from fun w' k => Turn.of_below (stp_start (show Stp w7.drew w' from k.b) (Below.refl _ _)))
        clear hq
        clear hnp hp kl al ql tx sx MID st' hD' hE' tt HK y0 y2 hcb y27 hpl
        go_upto_region 28 with fail
        refine wp_region_rel_tail 15 188 (by kernel_rfl) (by kernel_rfl) (Gw w7.heap.size q (.slice f.A lb f.c)) ((.one ?_) :: (.one ?_) :: (.rel (G0 w7.heap.size 36)) :: (.one ?_) :: (.one ?_) :: (.one ?_) :: (.one ?_) :: (.one ?_) :: (.rel (GR w7.heap.size 36 np vs)) :: (.one ?_) :: (.one ?_) :: (.rel (G1 w7.heap.size 36 (.slice f.A lb f.c))) :: (.rel (GA w7.heap.size 36 np vs (.slice f.A lb f.c))) :: (.one ?_) :: (.one ?_) :: []) (by kernel_rfl) rfl (by kernel_rfl) Gw.refl Gw.trans ⟨G0.stable, GR.stable HQ.out.1, G1.stable HQ.out.2.1, GA.stable HQ.out.1 NL.out, trivial⟩ ?main
        case main =>
          simp only [List.take_succ_cons, List.take_zero, List.drop_succ_cons, List.drop_zero]
          iterate 2
            refine wpR_one (A' := ?_) Gw.refl (by rfl) _ rfl 188 (by rfl) (by rfl) ?_ ?_ ?_
            rotate_left 1
            · simp only [Act.put, List.setIfInBounds_toArray, List.set_cons_zero, List.set_cons_succ]; rfl
            · intro w1 hs hf K hK
              go_big_quiet_op
              first
                | go_big_quiet_on
                | (refine ⟨_, fun _ _ => rfl, ?_⟩; go_big_quiet_on)
              rfl
          refine wpR_rel (A' := ?_) (by rfl) ?_ ?_ ?_
          · intro w1 hs hf
            have hz : w7.heap.size ≤ w1.heap.size := Gw.size (w := w7.drew) hs
            refine does_list0 rfl ?_
            exact G0.new w1 hz
          rotate_left 1
          · intro x
            simp only [Act.put, List.setIfInBounds_toArray, List.set_cons_zero, List.set_cons_succ]; rfl
          intro x116
          iterate 4
            refine wpR_one (A' := ?_) Gw.refl (by rfl) _ rfl 188 (by rfl) (by rfl) ?_ ?_ ?_
            rotate_left 1
            · simp only [Act.put, List.setIfInBounds_toArray, List.set_cons_zero, List.set_cons_succ]; rfl
            · intro w1 hs hf K hK
              go_big_quiet_op
              first
                | go_big_quiet_on
                | (refine ⟨_, fun _ _ => rfl, ?_⟩; go_big_quiet_on)
              rfl
          refine wpR_one (A' := ?_) Gw.refl (by rfl) _ rfl 188 (by rfl) (by rfl) ?_ ?_ ?_
          rotate_left 1
          · simp only [Act.put, List.setIfInBounds_toArray, List.set_cons_zero, List.set_cons_succ]; rfl
          · intro w1 hs hf K hK
            refine cls_load_cell 31 (.tmp 120) rfl ⟨bb, cur * 2 + 1, none⟩ rfl (.slice Al np cl) (fun w h => by simp [go_sem, h]) (fun w2 h2 => (FZ.out w2 (TQ.out w2 (Gw.trans _ _ _ hs h2))).1) ?_
            refine hK _ ?_
            simp only [Act.put, List.setIfInBounds_toArray, List.set_cons_zero, List.set_cons_succ]
            rfl
          refine wpR_rel (A' := ?_) (by rfl) ?_ ?_ ?_
          · intro w1 hs hf
            have hz : w7.heap.size ≤ w1.heap.size := Gw.size (w := w7.drew) hs
            obtain ⟨v', w', hr, h3, h4⟩ := listAppend 31 w7.heap.size q (.slice f.A lb f.c) w1 x116 (AllF_at hf 0 rfl (by kernel_rfl)) hz Al cl np vs NL.out (SRC.out w1 (TQ.out w1 hs)) HCC.out.1 HCC.out.2 ONE.out (by have := HPL.out; omega)
            exact does_append _ _ _ _ _ v' rfl rfl rfl hr ⟨h3, h4⟩
          rotate_left 1
          · intro x
            simp only [Act.put, List.setIfInBounds_toArray, List.set_cons_zero, List.set_cons_succ]; rfl
          intro x122
          iterate 1
            refine wpR_one (A' := ?_) Gw.refl (by rfl) _ rfl 188 (by rfl) (by rfl) ?_ ?_ ?_
            rotate_left 1
            · simp only [Act.put, List.setIfInBounds_toArray, List.set_cons_zero, List.set_cons_succ]; rfl
            · intro w1 hs hf K hK
              go_big_quiet_op
              first
                | go_big_quiet_on
                | (refine ⟨_, fun _ _ => rfl, ?_⟩; go_big_quiet_on)
              rfl
          refine wpR_one (A' := ?_) Gw.refl (by rfl) _ rfl 188 (by rfl) (by rfl) ?_ ?_ ?_
          rotate_left 1
          · simp only [Act.put, List.setIfInBounds_toArray, List.set_cons_zero, List.set_cons_succ]; rfl
          · intro w1 hs hf K hK
            refine cls_load_cell 36 (.tmp 123) rfl ⟨y, 2, none⟩ rfl (.slice f.A lb f.c) (fun w h => by simp [go_sem, h]) (fun w2 h2 => (FZ.out w2 (TQ.out w2 (Gw.trans _ _ _ hs h2))).2.2) ?_
            refine hK _ ?_
            simp only [Act.put, List.setIfInBounds_toArray, List.set_cons_zero, List.set_cons_succ]
            rfl
          refine wpR_rel (A' := ?_) (by rfl) ?_ ?_ ?_
          · intro w1 hs hf
            have hz : w7.heap.size ≤ w1.heap.size := Gw.size (w := w7.drew) hs
            refine does_build_slT (.tmp 124) rfl f.A lb f.c rfl ?_
            exact G1.new w1 hz
          rotate_left 1
          · intro x
            simp only [Act.put, List.setIfInBounds_toArray, List.set_cons_zero, List.set_cons_succ]; rfl
          intro x125
          refine wpR_rel (A' := ?_) (by rfl) ?_ ?_ ?_
          · intro w1 hs hf
            have hz : w7.heap.size ≤ w1.heap.size := Gw.size (w := w7.drew) hs
            obtain ⟨v', w', hr, h3, h4⟩ := listPush 31 w7.heap.size q (.slice f.A lb f.c) w1 x122 x125 np vs (AllF_at hf 1 rfl (by kernel_rfl)) (AllF_at hf 0 rfl (by kernel_rfl)) hz NL.out HB1.out (by have := HPL.out; omega) HQ.out.2.2
            exact does_append _ _ _ _ _ v' rfl rfl rfl hr ⟨h3, h4⟩
          rotate_left 1
          · intro x
            simp only [Act.put, List.setIfInBounds_toArray, List.set_cons_zero, List.set_cons_succ]; rfl
          intro x126
          iterate 2
            refine wpR_one (A' := ?_) Gw.refl (by rfl) _ rfl 188 (by rfl) (by rfl) ?_ ?_ ?_
            rotate_left 1
            · simp only [Act.put, List.setIfInBounds_toArray, List.set_cons_zero, List.set_cons_succ]; rfl
            · intro w1 hs hf K hK
              go_big_quiet_op
              first
                | go_big_quiet_on
                | (refine ⟨_, fun _ _ => rfl, ?_⟩; go_big_quiet_on)
              rfl
          intro w9 hs hf
          obtain ⟨h126, -⟩ := hf
          obtain ⟨g9, cap9, e9, own9⟩ := h126.own NL.out
          subst e9
          have RE := Lib.hid (RES.out w9 _ cap9 (TQ.out w9 hs) own9)
          obtain ⟨cb9, zb9, y9⟩ := FZ.out w9 (TQ.out w9 hs)
          clear hs h126 own9
          go_wp2
          go_roundw
          case rel => exact ⟨i + 1, c, cur, t, sure, len, 20, bb, cc, false, ts.set cur (pt, pl ++ [fb]), D', E', by have := HIL.out; omega, by go_num, rfl, rfl, by rw [List.length_set], rfl, rfl, rfl, RE.out⟩
          case measure => simp [intOf]; have := HIL.out; omega
    by_cases z1 : f.k = 1
    · as_aux_lemma =>
      rw [z1] at y0
      have SY := Lib.hid (hsync_any w6 g c i t sure len on D E I6.out.st)
      go_wp2_with (go_at_call 16; refine stop ?_)
      unfold Stop
      refine SY.out.mono ?_
      rintro r w7 ⟨e, on', q, D', E', rfl, st', hD', hE', tt, hcase⟩
      rcases hcase with ⟨hon, rfl, rfl, rfl⟩ | ⟨hon, rfl, he, rfl⟩ | ⟨rfl, rfl, rfl⟩
      · obtain ⟨⟨pt, pl⟩, hp1, hp2⟩ := I6.out.ln hon
        have J7 := Lib.hid (I6.out.step st' hD' hE' tt (fun _ => ⟨_, hp1, hp2⟩))
        obtain ⟨Al, cl, hc1, -⟩ := J7.out.tr.cellL hp1
        have hp2 : pl.length = len := hp2
        rw [hp2] at hc1
        clear st' hD' hE' tt SY hp1 hp2 y0
        go_wp2
        go_roundw
        case rel => exact ⟨i + 1, c, cur, t, len, len, 0, bb, cc, true, ts, D', E', by have := HIL.out; omega, by go_num, rfl, rfl, rfl, rfl, rfl, rfl, J7.out⟩
        case measure => simp [intOf]; have := HIL.out; omega
      · have J7 := Lib.hid (I6.out.step st' hD' hE' tt (fun _ => I6.out.ln hon))
        clear st' hD' hE' tt SY y0
        rcases he with rfl | rfl
        · go_wp2
          go_roundw
          case rel => exact ⟨i + 1, c, cur, t, sure, len, 4, bb, cc, true, ts, D', E', by have := HIL.out; omega, by go_num, rfl, rfl, rfl, rfl, rfl, rfl, J7.out⟩
          case measure => simp [intOf]; have := HIL.out; omega
        · go_wp2
          go_roundw
          case rel => exact ⟨i + 1, c, cur, t, sure, len, 18, bb, cc, true, ts, D', E', by have := HIL.out; omega, by go_num, rfl, rfl, rfl, rfl, rfl, rfl, J7.out⟩
          case measure => simp [intOf]; have := HIL.out; omega
      · have J7 := Lib.hid (I6.out.step st' hD' hE' tt (fun h => by cases h))
        clear st' hD' hE' tt SY y0
        go_wp2
        go_roundw
        case rel => exact ⟨i + 1, c, cur, t, sure, len, 20, bb, cc, false, ts, D', E', by have := HIL.out; omega, by go_num, rfl, rfl, rfl, rfl, rfl, rfl, J7.out⟩
        case measure => simp [intOf]; have := HIL.out; omega
    by_cases z2 : f.k = 2
    · as_aux_lemma =>
      rw [z2] at y0
      have y2 : w6.cell? ⟨y, 2, none⟩ = some (.slice f.A lb f.c) := by rw [cell_of_row _ _ _ _ _ _ Y6.out]; rfl
      have HK := hturn_any w6 g c i t sure len on D E f.A f.c fb I6.out.st (by have := HIL.out; have := HGL.out; omega) (SB.out.turn (Turn.refl (fun _ => False) _) (fun _ h => h.elim) (fun j _ h => h.elim (I6.out.de.1 j) (I6.out.de.2 j))) ABB.out.1 ABB.out.2.1 (by have := ABB.out.2.2.1; omega)
      rw [← HLBB.out] at HK
      have HK := Lib.hid HK
      go_wp2_with (go_at_call 18; refine stop ?_)
      unfold Stop
      refine HK.out.mono ?_
      rintro r w7 ⟨e, on', q, D', E', rfl, st', hD', hE', tt, hcase⟩
      have MID := I6.out.mid hD' hE' tt
      have y27 : w7.cell? ⟨y, 2, none⟩ = some (.slice f.A lb f.c) := tt.cell y2 HYD.out.1
      have ht1 : t ≤ 1 + i := by have := I6.out.st; unfold HSt at this; exact this.1
      have SBW := Lib.hid (show SlN w7 (fun j => (D' j ∨ E' j) ∨ j = bb) f.A (fb.map bv) from SB.out.turn tt (fun j h => h.elim (I6.out.de.1 j) (I6.out.de.2 j)) (fun j _ h => h.elim (fun h => h.elim (MID.2.1.1 j) (MID.2.1.2 j)) (fun h => by rw [h]; exact I6.out.bl)))
      rcases hcase with ⟨hon, rfl, rfl, rfl⟩ | ⟨hon, rfl, he, rfl⟩ | ⟨rfl, rfl, rfl⟩
      rotate_left 1
      · have J7 := Lib.hid (I6.out.step st' hD' hE' tt (fun _ => I6.out.ln hon))
        clear st' hD' hE' tt HK y0 y2 y27 MID SBW ht1
        rcases he with rfl | rfl
        · go_wp2
          go_roundw
          case rel => exact ⟨i + 1, c, cur, t, sure, len, 4, bb, cc, true, ts, D', E', by have := HIL.out; omega, by go_num, rfl, rfl, rfl, rfl, rfl, rfl, J7.out⟩
          case measure => simp [intOf]; have := HIL.out; omega
        · go_wp2
          go_roundw
          case rel => exact ⟨i + 1, c, cur, t, sure, len, 18, bb, cc, true, ts, D', E', by have := HIL.out; omega, by go_num, rfl, rfl, rfl, rfl, rfl, rfl, J7.out⟩
          case measure => simp [intOf]; have := HIL.out; omega
      rotate_left 1
      · obtain ⟨wm1, hwm1⟩ : ∃ x, x = w7.alloc (.cells #[.slice f.A lb f.c] 36) := ⟨_, rfl⟩
        obtain ⟨wm, hwm⟩ : ∃ x, x = wm1.alloc (.cells #[.int .i64 ((t : Int) + 1), .slice (some ⟨w7.heap.size, 0, none⟩) 1 1] 53) := ⟨_, rfl⟩
        have tm1 : Turn (fun _ => False) w7 wm1 := by rw [hwm1]; exact (Turn.refl _ _).alloc _
        have tm2 : Turn (fun _ => False) wm1 wm := by rw [hwm]; exact (Turn.refl _ _).alloc _
        have tm := tm1.trans tm2 (fun _ _ h => h)
        have HSM := st'.quiet tm
        have LO : LstQ wm1 (fun j => (D' j ∨ E' j) ∨ j = bb) (some ⟨w7.heap.size, 0, none⟩) [fb] := by
          rw [hwm1]
          exact lst_one SBW.out ABB.out.1 (by have := ABB.out.2.1; exact this) HLBB.out (fun j h => h.elim (fun h => st'.lt j h) (fun h => by rw [h]; exact MID.1.lt))
        have hxm : wm.heap[w7.heap.size + 1]? = some (.cells #[.int .i64 ((t + 1 : Nat) : Int), .slice (some ⟨w7.heap.size, 0, none⟩) ([fb] : List (List B8)).length 1] 53 (0, 0)) := by
          have e1 : wm1.heap.size = w7.heap.size + 1 := by rw [hwm1]; simp
          rw [hwm, ← e1]; exact heap_alloc_new _ _
        obtain ⟨bb', cc', wp, hrun, trp, tp, hbb⟩ := try_push 54 (MID.1.turn tm (fun _ h => h.elim) (fun _ _ h => h)) (t := t + 1) (l := [fb]) hxm (Nat.le_refl _) (fun h => by cases h) (LO.turn tm2 (fun _ h => h.elim) (fun _ _ h => h)) (by have := I6.out.nt; have := HIL.out; have := HGL.out; omega) (fun j hj => HSM.lt j hj)
        have HRUN := Lib.hid hrun
        have KP := Lib.hid (KpI.push (cur' := ts.length) I6.out HSM (MID.1.turn tm (fun _ h => h.elim) (fun _ _ h => h)) trp tp hbb (MID.2.2.trans tm (fun _ _ h => h)) (by omega) (by show 1 ≤ _; omega) (fun x hx => by rw [List.mem_singleton] at hx; rw [hx]; have := ABB.out.2.2.1; omega) (by have := I6.out.cu; omega) (fun _ => ⟨_, by rw [List.getElem?_append_right (Nat.le_refl _), Nat.sub_self]; rfl, rfl⟩) MID.2.1)
        have hwt : IntKind.i64.wrap ((t : Int) + 1) = (t : Int) + 1 := IntWalk.i64_in _ (by omega)
        have HWM := Lib.hid (show wm = (w7.alloc (.cells #[.slice f.A lb f.c] 36)).alloc (.cells #[.int .i64 ((t : Int) + 1), .slice (some ⟨w7.heap.size, 0, none⟩) 1 1] 53) by rw [hwm, hwm1])
        clear hrun trp tp hbb LO HSM tm tm1 tm2 hwm hwm1 hxm MID st' hD' hE' tt HK y0 y2
        go_upto_region 36 with fail
        obtain ⟨V, hV⟩ : ∃ V : Value, V = .slice (some ⟨bb, 0, none⟩) ts.length cc := ⟨_, rfl⟩
        rw [← hV]
        have HV := Lib.hid hV
        clear hV
        go_wp2_with (at_builtin; refine stop ?_)
        unfold Stop
        rw [← HWM.out]
        clear HWM y27
        refine Lib.wpList_append_run _ rfl _ _ _ _ rfl _ _ rfl rfl _ _ (by rw [HV.out]; exact HRUN.out) ?_
        clear HRUN HV
        go_wp2
        go_roundw
        case rel => exact ⟨i + 1, c, ts.length, t + 1, 1, 1, 0, bb', cc', true, ts ++ [(t + 1, [fb])], D', E', by have := HIL.out; omega, by go_num, rfl, rfl, by rw [List.length_append]; rfl, congrArg _ (IntWalk.wrap64_in _ (by have := I6.out.nt; have := HIL.out; have := HGL.out; omega)), by go_num, rfl, KP.out⟩
        case measure => simp [intOf]; have := HIL.out; omega
      · obtain ⟨wm1, hwm1⟩ : ∃ x, x = w7.alloc (.cells #[.slice f.A lb f.c] 36) := ⟨_, rfl⟩
        obtain ⟨wm, hwm⟩ : ∃ x, x = wm1.alloc (.cells #[.int .i64 ((t : Int) + 1), .slice (some ⟨w7.heap.size, 0, none⟩) 1 1] 53) := ⟨_, rfl⟩
        have tm1 : Turn (fun _ => False) w7 wm1 := by rw [hwm1]; exact (Turn.refl _ _).alloc _
        have tm2 : Turn (fun _ => False) wm1 wm := by rw [hwm]; exact (Turn.refl _ _).alloc _
        have tm := tm1.trans tm2 (fun _ _ h => h)
        have HSM := st'.quiet tm
        have LO : LstQ wm1 (fun j => (D' j ∨ E' j) ∨ j = bb) (some ⟨w7.heap.size, 0, none⟩) [fb] := by
          rw [hwm1]
          exact lst_one SBW.out ABB.out.1 (by have := ABB.out.2.1; exact this) HLBB.out (fun j h => h.elim (fun h => st'.lt j h) (fun h => by rw [h]; exact MID.1.lt))
        have hxm : wm.heap[w7.heap.size + 1]? = some (.cells #[.int .i64 ((t + 1 : Nat) : Int), .slice (some ⟨w7.heap.size, 0, none⟩) ([fb] : List (List B8)).length 1] 53 (0, 0)) := by
          have e1 : wm1.heap.size = w7.heap.size + 1 := by rw [hwm1]; simp
          rw [hwm, ← e1]; exact heap_alloc_new _ _
        obtain ⟨bb', cc', wp, hrun, trp, tp, hbb⟩ := try_push 54 (MID.1.turn tm (fun _ h => h.elim) (fun _ _ h => h)) (t := t + 1) (l := [fb]) hxm (Nat.le_refl _) (fun h => by cases h) (LO.turn tm2 (fun _ h => h.elim) (fun _ _ h => h)) (by have := I6.out.nt; have := HIL.out; have := HGL.out; omega) (fun j hj => HSM.lt j hj)
        have HRUN := Lib.hid hrun
        have KP := Lib.hid (KpI.push (cur' := cur) I6.out HSM (MID.1.turn tm (fun _ h => h.elim) (fun _ _ h => h)) trp tp hbb (MID.2.2.trans tm (fun _ _ h => h)) (by omega) (by show 1 ≤ _; omega) (fun x hx => by rw [List.mem_singleton] at hx; rw [hx]; have := ABB.out.2.2.1; omega) (by have := I6.out.cu; omega) (fun h => by cases h) MID.2.1)
        have hwt : IntKind.i64.wrap ((t : Int) + 1) = (t : Int) + 1 := IntWalk.i64_in _ (by omega)
        have HWM := Lib.hid (show wm = (w7.alloc (.cells #[.slice f.A lb f.c] 36)).alloc (.cells #[.int .i64 ((t : Int) + 1), .slice (some ⟨w7.heap.size, 0, none⟩) 1 1] 53) by rw [hwm, hwm1])
        clear hrun trp tp hbb LO HSM tm tm1 tm2 hwm hwm1 hxm MID st' hD' hE' tt HK y0 y2
        go_upto_region 36 with fail
        obtain ⟨V, hV⟩ : ∃ V : Value, V = .slice (some ⟨bb, 0, none⟩) ts.length cc := ⟨_, rfl⟩
        rw [← hV]
        have HV := Lib.hid hV
        clear hV
        go_wp2_with (at_builtin; refine stop ?_)
        unfold Stop
        rw [← HWM.out]
        clear HWM y27
        refine Lib.wpList_append_run _ rfl _ _ _ _ rfl _ _ rfl rfl _ _ (by rw [HV.out]; exact HRUN.out) ?_
        clear HRUN HV
        go_wp2
        go_roundw
        case rel => exact ⟨i + 1, c, cur, t, sure, len, 20, bb', cc', false, ts ++ [(t + 1, [fb])], D', E', by have := HIL.out; omega, by go_num, rfl, rfl, by rw [List.length_append]; rfl, rfl, rfl, rfl, KP.out⟩
        case measure => simp [intOf]; have := HIL.out; omega
    by_cases z3 : f.k = 3
    · as_aux_lemma =>
      rw [z3] at y0
      have y1 : w6.cell? ⟨y, 1, none⟩ = some (.int .i64 f.n) := by rw [cell_of_row _ _ _ _ _ _ Y6.out]; rfl
      have PK := Lib.hid (show Calls Tryd.prog 21 #[.int .i64 f.n, .int .i64 20] w6 fun e w' => (∃ k : Nat, k < 20 ∧ e = .returned (.int .i64 (k : Int))) ∧ w' = w6 from pick_any f.n 20 w6 (by omega) (by omega))
      go_wp2_with (go_at_call 21; refine stop ?_)
      unfold Stop
      refine PK.out.mono ?_
      rintro r w7 ⟨⟨k, hk, rfl⟩, hw⟩
      rw [hw]
      clear hw w7 PK
      have hwk : IntKind.i64.wrap (1 + (k : Int)) = 1 + (k : Int) := IntWalk.i64_in _ (by omega)
      have FU := Lib.hid (hfuse_any w6 g c i t sure len on D E (1 + (k : Int)) (by omega) I6.out.st)
      clear y1
      go_wp2_with (go_at_call 20; refine stop ?_)
      unfold Stop
      refine FU.out.mono ?_
      rintro r w7 ⟨⟨v, rfl⟩, st', tt⟩
      have J7 := Lib.hid (I6.out.step st' (fun _ h => .inl h) (fun _ h => .inl h) (tt.mono (fun _ _ h => .inl h)) I6.out.ln)
      clear st' tt FU y0 hwk hk
      go_wp2
      go_roundw
      case rel => exact ⟨i + 1, c, cur, t, sure, len, 0, bb, cc, on, ts, D, E, by have := HIL.out; omega, by go_num, rfl, rfl, rfl, rfl, rfl, rfl, J7.out⟩
      case measure => simp [intOf]; have := HIL.out; omega
    as_aux_lemma =>
    have y3 : w6.cell? ⟨y, 3, none⟩ = some (.slice f.A' lm f.c') := by rw [cell_of_row _ _ _ _ _ _ Y6.out]; rfl
    have SA := hstart_any w6 g c i t sure len on D E f.A' f.c' fm I6.out.st (SM.out.turn (N' := D) (Turn.refl (fun _ => False) _) (fun _ h => h.elim) (fun j _ h => I6.out.de.1 j h)) (by have := ABB.out.2.2.2; unfold maxLen; omega)
    rw [← HLMM.out] at SA
    have SA := Lib.hid SA
    have KNZ : f.k ≠ 0 ∧ f.k ≠ 1 ∧ f.k ≠ 2 ∧ f.k ≠ 3 := ⟨z0, z1, z2, z3⟩
    go_wp2_with (go_at_call 22; refine stop ?_)
    unfold Stop
    refine SA.out.mono ?_
    rintro r w7 ⟨⟨v, rfl⟩, ⟨d, bs⟩, t7⟩
    have BS7 := Lib.hid bs
    have TR7 := Lib.hid (show TrS w7 bb cc D ts from I6.out.tr.turn (t7.mono (S := fun j => D j ∨ E j) (fun _ _ h => .inl h)) (fun _ h => h) (fun _ _ h => .inl h))
    have TT7 := Lib.hid (show Turn (fun _ => False) w w7 from I6.out.tw.trans t7 (fun j hj h' => by have := I6.out.de.1 j h'; omega))
    have BY := cbytes_any g 24 d D w7 bs.1 bs.2.1 (by omega)
    rw [show 64 * 24 = 1536 from rfl] at BY
    have BY := Lib.hid BY
    have HS7 := Lib.hid (And.intro t7.size bs.1.lt)
    clear SA bs t7 y0 y3 z0 z1 z2 z3
    go_wp2_with (go_at_call 24; refine stop ?_)
    unfold Stop
    refine BY.out.mono ?_
    rintro r w8 ⟨A8, c8, rfl, o8, t8⟩
    obtain ⟨A9, c9, e9, s9, -, k9, a9⟩ := own_sl o8
    injection e9 with e9 _ e9c
    subst e9; subst e9c
    obtain ⟨All, hAll⟩ : ∃ x, x = cutD d 0 24 := ⟨_, rfl⟩
    have hal : All.length = 1536 := by rw [hAll, cutD_len BS7.out.2.1.ok 0 24 (by omega)]
    rw [← hAll] at o8
    have FD := rfind_any (fun j => j < w7.heap.size) A8 c8 All w8 (own_sln (N := fun j => j < w7.heap.size) o8 (fun j hj => hj)) a9 (by rw [hal]; exact k9) (by rw [hal]; omega)
    rw [hal, show ((1536 / 64 / 2 : Nat) : Int) = 12 from rfl] at FD
    have FD := Lib.hid FD
    have HFO := Lib.hid BS7.out.found
    rw [← hAll] at HFO
    have HALL := Lib.hid hAll
    have T8 := Lib.hid t8
    clear BY o8 t8 s9 k9 a9 hAll hal
    go_wp2_with (go_at_call 23; refine stop ?_)
    unfold Stop
    refine FD.out.mono ?_
    rintro r w9 ⟨v9, rfl, A9, c9, hv, q9, a9, k9, t9⟩
    obtain ⟨T_, hT_⟩ : ∃ T, T = (findS All).1 := ⟨_, rfl⟩
    obtain ⟨L_, hL_⟩ : ∃ L, L = (findS All).2 := ⟨_, rfl⟩
    rw [← hL_] at q9 k9
    rw [← hT_, ← hL_] at hv
    obtain ⟨CR, hCR⟩ : ∃ CR, CR = cstC (T_ : Int) 12 A9 L_.length c9 := ⟨_, rfl⟩
    have hvC : v9 = .agg CR := by rw [hv, hCR]; rfl
    have KC := Lib.hid (show (Tryd.prog.info? 33).map (·.size) = some CR.size ∧ ZCh.size = CR.size ∧ CR.all (·.oneCell') = true by rw [hCR]; exact cst_facts _ _ _ _ _)
    obtain ⟨x, hx⟩ : ∃ x, x = w9.heap.size := ⟨_, rfl⟩
    obtain ⟨wx, hwx⟩ : ∃ wx, wx = (w9.alloc (.cells ZCh 33)).setRow w9.heap.size CR := ⟨_, rfl⟩
    have HAX := Lib.hid (show (w9.alloc (.cells ZCh 33)).heap[w9.heap.size]? = some (.cells ZCh 33 (0, 0)) from heap_alloc_new _ _)
    have tx : Turn (fun _ => False) w9 wx := by rw [hwx]; exact ((Turn.refl _ _).alloc _).setRow _ _ (fun h => by omega)
    have XX := Lib.hid (show CBx wx x (T_ : Int) 12 A9 L_.length c9 from by
      show wx.heap[x]? = some (.cells (cstC (T_ : Int) 12 A9 L_.length c9) 33 (0, 0))
      rw [← hCR, hwx, hx]; exact setRow_heap _ _ _ _ _ _ HAX.out)
    clear hCR hv
    subst hvC
    have s78 := T8.out.size
    have s89 := t9.size
    have T7X := Lib.hid ((T8.out.trans t9 (fun _ _ h => h)).trans tx (fun _ _ h => h))
    have HXS := Lib.hid (show w7.heap.size ≤ x ∧ x < wx.heap.size by have := lt_of_block XX.out; omega)
    have QX := Lib.hid (show LstQ wx (fun j => j < w7.heap.size) A9 L_ from q9.turn tx (fun _ h => h.elim) (fun j hj h => ⟨h, by omega⟩))
    have QC := Lib.hid (And.intro a9 k9)
    have BSX := Lib.hid (BS7.out.quiet T7X.out)
    have TRX := Lib.hid (TR7.out.turn T7X.out (fun _ h => h.elim) (fun _ _ h => h))
    have TTX := Lib.hid (TT7.out.trans T7X.out (fun _ _ h => h))
    have HTL := Lib.hid (And.intro hT_ hL_)
    rw [← hT_, ← hL_] at HFO
    have OP := hopen_any wx g i t sure D d BSX.out (by have := HIL.out; have := HGL.out; omega)
    rw [← HALL.out, ← hT_, ← hL_] at OP
    have OP := Lib.hid OP
    clear q9 a9 k9 t9 tx s78 s89 FD hT_ hL_
    go_upto_region 16 with (refine wpList_store_row rfl _ _ _ rfl w9.heap.size CR rfl rfl 33 ZCh HAX.out KC.out.1 KC.out.2.1 KC.out.2.2 ?_)
    change Code.wp _ _ _ _ ((w9.alloc (.cells ZCh 33)).setRow w9.heap.size CR)
    rw [← hwx, ← hx]
    clear hwx hx
    go_wp2_with (go_at_call 11; refine stop ?_)
    unfold Stop
    refine OP.out.mono ?_
    rintro r wo ⟨co, dd, kk, D', E', rfl, ka, cg, hkt, hkL, hst, hD', hE', to⟩
    have XO := Lib.hid (show CBx wo x (T_ : Int) 12 A9 L_.length c9 from to.heap XX.out (fun h => by have := HS7.out.2 x h; have := HXS.out; omega))
    have KAO := Lib.hid ka
    have CGO := Lib.hid cg
    have HK := Lib.hid (And.intro hkt hkL)
    have HST := Lib.hid hst
    have szx := T7X.out.size
    have DEO := Lib.hid (show (∀ j, D' j → w.heap.size ≤ j) ∧ (∀ j, E' j → w.heap.size ≤ j) from ⟨fun j hj => by
      rcases hD' j hj with h | h
      · exact I6.out.de.1 j h
      · have := h.1; have := TTX.out.size; omega, fun j hj => by have := hE' j hj; have := TTX.out.size; omega⟩)
    have QO := Lib.hid (show LstQ wo (fun j => (D' j ∨ E' j) ∨ j = bb) A9 L_ from QX.out.turn to (fun j h => HS7.out.2 j h) (fun j hj h => by
      rcases h with (h | h) | h
      · rcases hD' j h with h | h
        · exact HS7.out.2 j h
        · have := h.1; omega
      · have := hE' j h; omega
      · rw [h]; exact TR7.out.lt))
    have TRO := Lib.hid (show TrS wo bb cc (fun j => D' j ∨ E' j) ts from TRX.out.turn to (fun _ h => h) (fun j hj h => by
      rcases h with h | h
      · rcases hD' j h with h | h
        · exact h
        · have := h.1; omega
      · have := hE' j h; omega))
    have TTO := Lib.hid (show Turn (fun _ => False) w wo from TTX.out.trans to (fun j hj h' => by have := I6.out.de.1 j h'; omega))
    have HXN := Lib.hid (show ¬ (D' x ∨ E' x) from fun h => by
      rcases h with h | h
      · rcases hD' x h with h | h
        · have := HS7.out.2 x h; have := HXS.out; omega
        · have := h.1; have := HXS.out; omega
      · have := hE' x h; have := HXS.out; omega)
    clear ka cg hkt hkL hst hD' hE' to szx OP
    obtain ⟨u0, u1, u2⟩ := CBx.cells XO.out
    have KN := Lib.hid (show Calls Tryd.prog 25 #[.slice (some ⟨bb, 0, none⟩) ts.length cc, cstV (T_ : Int) 12 A9 L_.length c9] wo fun r w' => ∃ v, r = .returned (.bool v) ∧ (v = true → ∃ p ∈ ts, p.1 = T_) ∧ Turn (fun _ => False) wo w' from
      known_any wo (some ⟨bb, 0, none⟩) cc ts T_ 12 A9 c9 L_ TRO.out.tryL (by have := I6.out.nt; have := HIL.out; have := HGL.out; omega) QO.out.lstN.lst (by have := HFO.out.2.2.1; omega) (fun z hz => by have := HFO.out.2.2.2 z hz; unfold maxLen; omega) (fun p hp z hz => by have := (I6.out.bd p hp).2.2 z hz; unfold maxLen; omega))
    by_cases hTt : T_ = t
    · have e1 : decide ((T_ : Int) < (t : Int)) = false := decide_eq_false (by omega)
      have e2 : decide ((T_ : Int) = (t : Int)) = true := decide_eq_true (by omega)
      have e3 : decide ((L_.length : Int) < (sure : Int)) = false := decide_eq_false (by have := HFO.out.2.1 hTt; omega)
      have e4 : decide (L_.length < sure) = false := decide_eq_false (by have := HFO.out.2.1 hTt; omega)
      have e5 : ((T_ : Int) == (t : Int)) = true := by rw [hTt]; exact beq_self_eq_true _
      have e6 : decide (T_ = t) = true := decide_eq_true hTt
      have e7 : decide (T_ < t) = false := decide_eq_false (by omega)
      have e8 : ¬ L_.length < sure := by have := HFO.out.2.1 hTt; omega
      clear hTt
      go_wp2_with (go_at_call 25; refine stop ?_)
      unfold Stop
      refine KN.out.mono ?_
      rintro r wk ⟨v, rfl, hv, tk⟩
      have TTK := Lib.hid (TTO.out.trans tk (fun _ _ h => h))
      cases v with
      | false =>
        clear hv tk
        go_wp2_with (go_at_call 9; refine stop ?_)
        unfold Stop
        refine (AW.out wk TTK.out).mono ?_
        rintro r wq ⟨rfl, tq⟩
        have TQ := Lib.hid (TTK.out.trans tq (fun _ _ h => h))
        clear tq
        go_wp2
        go_ret
        exact ⟨rfl, TQ.out⟩
      | true =>
        obtain ⟨pp, hpp, hpT⟩ := hv rfl
        have hT1 : T_ ≤ 1 + i := by rw [← hpT]; exact (I6.out.bd pp hpp).1
        have HS := Lib.hid ((HST.out hT1).quiet tk)
        have HT1 := Lib.hid hT1
        have KAK := KAO.out.quiet tk
        have RX : RefAt wk x kk.t 12 kk.L (fun j => D' j ∨ E' j) := by
          rw [HK.out.1, HK.out.2]
          refine ⟨fun h => ?_, A9, c9, tk.heap XO.out (fun h => h), QO.out.turn tk (fun _ h => h.elim) (fun _ _ h => .inl h), QC.out⟩
          exact HXN.out (h.elim .inl .inr)
        obtain ⟨Ai, ci, hbi, -, -, -, ISI⟩ := is_ref KAK CGO.out RX rfl (by omega)
        have HBI := Lib.hid hbi
        have ISI := Lib.hid ISI
        have TKK := Lib.hid tk
        clear hv tk hpp hpT hT1 KAK RX hbi u0 u1 u2
        obtain ⟨u0, u1, u2⟩ := CBx.cells HBI.out
        go_wp2_with (go_at_call 13; refine stop ?_)
        unfold Stop
        refine (ISI.out wk (Turn.refl _ _)).mono ?_
        rintro r wj ⟨rfl, tj⟩
        have TWJ := TKK.out.trans tj (fun _ _ h => h)
        have XJ := Lib.hid (show CBx wj x (T_ : Int) 12 A9 L_.length c9 from TWJ.heap XO.out (fun h => h))
        obtain ⟨wm, hwm⟩ : ∃ wm, wm = wj.alloc (.cells #[.int .i64 (T_ : Int), .slice A9 L_.length c9] 53) := ⟨_, rfl⟩
        have tm : Turn (fun _ => False) wj wm := by rw [hwm]; exact (Turn.refl _ _).alloc _
        have TWM := TWJ.trans tm (fun _ _ h => h)
        have HSM := (HS.out.quiet tj).quiet tm
        obtain ⟨bb', cc', wp, hrun, trp, tp, hbb⟩ := try_push 54 (TRO.out.turn TWM (fun _ h => h.elim) (fun _ _ h => h)) (t := T_) (x := wj.heap.size) (by rw [hwm]; exact heap_alloc_new _ _) QC.out.2 QC.out.1 (QO.out.turn TWM (fun _ h => h.elim) (fun _ _ h => h)) (by have := I6.out.nt; have := HIL.out; have := HGL.out; omega) (fun j hj => HSM.lt j hj)
        have HRUN := Lib.hid hrun
        have XBB := Lib.hid (show x ≠ bb by have := HXS.out; have := TR7.out.lt; omega)
        have XP := Lib.hid (show CBx wp x (T_ : Int) 12 A9 L_.length c9 from tp.heap (tm.heap XJ.out (fun h => h)) XBB.out)
        have KP := Lib.hid (KpI.push (cur' := ts.length) I6.out HSM (TRO.out.turn TWM (fun _ h => h.elim) (fun _ _ h => h)) trp tp hbb (TTO.out.trans TWM (fun _ _ h => h)) (by have := HT1.out; omega) (by have := HFO.out.2.2.1; omega) HFO.out.2.2.2 (Nat.lt_succ_self _) (fun _ => ⟨_, by rw [List.getElem?_append_right (Nat.le_refl _), Nat.sub_self]; rfl, rfl⟩) DEO.out)
        clear TWJ TWM tm tj hrun trp tp hbb ISI HBI u0 u1 u2
        obtain ⟨u0, u1, u2⟩ := CBx.cells XJ.out
        go_upto_region 23 with fail
        obtain ⟨V, hV⟩ : ∃ V : Value, V = .slice (some ⟨bb, 0, none⟩) ts.length cc := ⟨_, rfl⟩
        rw [← hV]
        have HV := Lib.hid hV
        clear hV
        go_wp2_with (at_builtin; refine stop ?_)
        unfold Stop
        rw [← hwm]
        clear hwm u0 u1 u2
        refine Lib.wpList_append_run _ rfl _ _ _ _ rfl _ _ rfl rfl _ _ (by rw [HV.out]; exact HRUN.out) ?_
        clear HRUN HV
        obtain ⟨u0, u1, u2⟩ := CBx.cells XP.out
        have hwc : IntKind.i64.wrap (((ts.length + 1 : Nat) : Int) - 1) = (ts.length : Int) := by rw [IntWalk.i64_in _ (by have := I6.out.nt; have := HIL.out; have := HGL.out; omega)]; omega
        have hwc2 : IntKind.i64.wrap ((ts.length : Int) + 1 - 1) = (ts.length : Int) := by rw [IntWalk.i64_in _ (by have := I6.out.nt; have := HIL.out; have := HGL.out; omega)]; omega
        have HWC := Lib.hid hwc2
        go_upto_region 24 with fail
        go_region
        all_goals
          go_wp2
          go_roundw
          case rel => exact ⟨i + 1, co, ts.length, T_, L_.length, L_.length, 0, bb', cc', true, ts ++ [(T_, L_)], D', E', by have := HIL.out; omega, by go_num, rfl, rfl, by rw [List.length_append]; rfl, congrArg _ (IntWalk.wrap64_in _ (by have := I6.out.nt; have := HIL.out; have := HGL.out; omega)), rfl, rfl, KP.out.quiet ((Turn.refl _ _).drew)⟩
          case measure => simp [intOf]; have := HIL.out; omega
    have e1 : decide ((T_ : Int) < (t : Int)) = false := decide_eq_false (by have := HFO.out.1; omega)
    have e2 : decide ((T_ : Int) = (t : Int)) = false := decide_eq_false (by omega)
    have e5 : ((T_ : Int) == (t : Int)) = false := beq_false_of_ne (by omega)
    have e6 : decide (T_ = t) = false := decide_eq_false hTt
    have e7 : decide (T_ < t) = false := decide_eq_false (by have := HFO.out.1; omega)
    go_wp2_with (go_at_call 25; refine stop ?_)
    unfold Stop
    refine KN.out.mono ?_
    rintro r wk ⟨v, rfl, hv, tk⟩
    have TTK := Lib.hid (TTO.out.trans tk (fun _ _ h => h))
    cases v with
    | false =>
      clear hv tk
      go_wp2_with (go_at_call 9; refine stop ?_)
      unfold Stop
      refine (AW.out wk TTK.out).mono ?_
      rintro r wq ⟨rfl, tq⟩
      have TQ := Lib.hid (TTK.out.trans tq (fun _ _ h => h))
      clear tq
      go_wp2
      go_ret
      exact ⟨rfl, TQ.out⟩
    | true =>
      obtain ⟨pp, hpp, hpT⟩ := hv rfl
      have hT1 : T_ ≤ 1 + i := by rw [← hpT]; exact (I6.out.bd pp hpp).1
      have HS := Lib.hid ((HST.out hT1).quiet tk)
      have HT1 := Lib.hid hT1
      have KAK := KAO.out.quiet tk
      have RX : RefAt wk x kk.t 12 kk.L (fun j => D' j ∨ E' j) := by
        rw [HK.out.1, HK.out.2]
        refine ⟨fun h => ?_, A9, c9, tk.heap XO.out (fun h => h), QO.out.turn tk (fun _ h => h.elim) (fun _ _ h => .inl h), QC.out⟩
        exact HXN.out (h.elim .inl .inr)
      obtain ⟨Ai, ci, hbi, -, -, -, ISI⟩ := is_ref KAK CGO.out RX rfl (by omega)
      have HBI := Lib.hid hbi
      have ISI := Lib.hid ISI
      have TKK := Lib.hid tk
      clear hv tk hpp hpT hT1 KAK RX hbi u0 u1 u2
      obtain ⟨u0, u1, u2⟩ := CBx.cells HBI.out
      go_wp2_with (go_at_call 13; refine stop ?_)
      unfold Stop
      refine (ISI.out wk (Turn.refl _ _)).mono ?_
      rintro r wj ⟨rfl, tj⟩
      have TWJ := TKK.out.trans tj (fun _ _ h => h)
      have XJ := Lib.hid (show CBx wj x (T_ : Int) 12 A9 L_.length c9 from TWJ.heap XO.out (fun h => h))
      obtain ⟨wm, hwm⟩ : ∃ wm, wm = wj.alloc (.cells #[.int .i64 (T_ : Int), .slice A9 L_.length c9] 53) := ⟨_, rfl⟩
      have tm : Turn (fun _ => False) wj wm := by rw [hwm]; exact (Turn.refl _ _).alloc _
      have TWM := TWJ.trans tm (fun _ _ h => h)
      have HSM := (HS.out.quiet tj).quiet tm
      obtain ⟨bb', cc', wp, hrun, trp, tp, hbb⟩ := try_push 54 (TRO.out.turn TWM (fun _ h => h.elim) (fun _ _ h => h)) (t := T_) (x := wj.heap.size) (by rw [hwm]; exact heap_alloc_new _ _) QC.out.2 QC.out.1 (QO.out.turn TWM (fun _ h => h.elim) (fun _ _ h => h)) (by have := I6.out.nt; have := HIL.out; have := HGL.out; omega) (fun j hj => HSM.lt j hj)
      have HRUN := Lib.hid hrun
      have XBB := Lib.hid (show x ≠ bb by have := HXS.out; have := TR7.out.lt; omega)
      have XP := Lib.hid (show CBx wp x (T_ : Int) 12 A9 L_.length c9 from tp.heap (tm.heap XJ.out (fun h => h)) XBB.out)
      have KP := Lib.hid (KpI.push (cur' := ts.length) I6.out HSM (TRO.out.turn TWM (fun _ h => h.elim) (fun _ _ h => h)) trp tp hbb (TTO.out.trans TWM (fun _ _ h => h)) (by have := HT1.out; omega) (by have := HFO.out.2.2.1; omega) HFO.out.2.2.2 (Nat.lt_succ_self _) (fun _ => ⟨_, by rw [List.getElem?_append_right (Nat.le_refl _), Nat.sub_self]; rfl, rfl⟩) DEO.out)
      clear TWJ TWM tm tj hrun trp tp hbb ISI HBI u0 u1 u2
      obtain ⟨u0, u1, u2⟩ := CBx.cells XJ.out
      go_upto_region 23 with fail
      obtain ⟨V, hV⟩ : ∃ V : Value, V = .slice (some ⟨bb, 0, none⟩) ts.length cc := ⟨_, rfl⟩
      rw [← hV]
      have HV := Lib.hid hV
      clear hV
      go_wp2_with (at_builtin; refine stop ?_)
      unfold Stop
      rw [← hwm]
      clear hwm u0 u1 u2
      refine Lib.wpList_append_run _ rfl _ _ _ _ rfl _ _ rfl rfl _ _ (by rw [HV.out]; exact HRUN.out) ?_
      clear HRUN HV
      obtain ⟨u0, u1, u2⟩ := CBx.cells XP.out
      have hwc : IntKind.i64.wrap (((ts.length + 1 : Nat) : Int) - 1) = (ts.length : Int) := by rw [IntWalk.i64_in _ (by have := I6.out.nt; have := HIL.out; have := HGL.out; omega)]; omega
      have hwc2 : IntKind.i64.wrap ((ts.length : Int) + 1 - 1) = (ts.length : Int) := by rw [IntWalk.i64_in _ (by have := I6.out.nt; have := HIL.out; have := HGL.out; omega)]; omega
      have HWC := Lib.hid hwc2
      go_upto_region 24 with fail
      go_region
      all_goals
        go_wp2
        go_roundw
        case rel => exact ⟨i + 1, co, ts.length, T_, L_.length, L_.length, 0, bb', cc', true, ts ++ [(T_, L_)], D', E', by have := HIL.out; omega, by go_num, rfl, rfl, by rw [List.length_append]; rfl, congrArg _ (IntWalk.wrap64_in _ (by have := I6.out.nt; have := HIL.out; have := HGL.out; omega)), rfl, rfl, KP.out.quiet ((Turn.refl _ _).drew)⟩
        case measure => simp [intOf]; have := HIL.out; omega
theorem keeps_law (A : Option Addr) (c : Nat) (l : List Ac) (W : World) (s : Acs W W.heap.size A l) (m : l.length ≤ maxLen) (hA : A = none → c = 0) (hc : l.length ≤ c) (hG : Glob W) :
    Calls Tryd.prog 5 #[.slice A l.length c] W fun r w' => r = .returned (.bool true) ∧ Below W.heap.size W w' :=
  (chestKeeps_of A c l W hG s hA m).mono fun _ _ h => ⟨h.1, turn_stp' h.2⟩
end
end Go.Proofs.YtajdcekkmikbcaaDoor
