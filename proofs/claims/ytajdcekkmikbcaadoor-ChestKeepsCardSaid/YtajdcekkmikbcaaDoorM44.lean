/- Merged: The landed chest's Turn. The landed chest's find. -/
import Derived.Test.YtajdcekkmikbcaaDoorM43
namespace Go.Proofs.YtajdcekkmikbcaaDoor
section
set_option linter.unusedVariables false
set_option linter.unusedSimpArgs false
open Go.RowKit
set_option maxRecDepth 100000
theorem kturn_gone (c : Nat) (A : Option Addr) (cb : Nat) (m : Nat) (w : World) (h : KGn w c) : Calls Tryd.prog 18 #[.pointer (some ⟨c, 0, none⟩), .slice A m cb] w fun r w' => r = .returned (.int .i64 20) ∧ w' = w := by
  obtain ⟨PS, half, a, t, H, NV, hb⟩ := h
  have US := Lib.hid (kused_no c PS half a t H NV w hb)
  clear hb
  go_enter Tryd.func18, Tryd.ntmps18
  go_wp2_with (go_at_call 38; refine US.out.mono ?_; clear US; rintro r w1 ⟨rfl, hw⟩; rw [hw]; clear hw)
  go_ret
  exact ⟨rfl, rfl⟩
/-- The error of Turn before the drum is asked. -/
def turnP (k : Ck) (half : Nat) (b : List B8) : Nat := if formE13 ((k.t + 1 : Nat) : Int) 0 b ≠ 0 then formE13 ((k.t + 1 : Nat) : Int) 0 b else if half < secsOf (formV13 ((k.t + 1 : Nat) : Int) 0 b) then 18 else 0
def turnR (d : Dr) (k : Ck) (half : Nat) (b : List B8) : Dr × Nat := layR d ((1 - k.a) * half) half (k.t + 1) b
def TPost (g c n : Nat) (d : Dr) (k : Ck) (b : List B8) (D E : Nat → Prop) (w : World) (r : Ending) (w' : World) : Prop :=
  ∃ D' E', (∀ j, D' j → Dn D w w' j) ∧ (∀ j, E' j → Dn E w w' j) ∧ Turn (fun j => D j ∨ E j) w w' ∧
      ((turnP k (n / 2) b ≠ 0 ∧ r = .returned (.int .i64 (turnP k (n / 2) b : Int)) ∧ KAt w' g c n d k D' E') ∨
       (turnP k (n / 2) b = 0 ∧ r = .returned (.int .i64 ((turnR d k (n / 2) b).2 : Int)) ∧
        (((turnR d k (n / 2) b).2 = 0 ∧ KAt w' g c n (turnR d k (n / 2) b).1 ⟨1 - k.a, k.t + 1, [b], (1 - k.a) * (n / 2) + secsOf (formV13 ((k.t + 1 : Nat) : Int) 0 b)⟩ D' E') ∨
         ((turnR d k (n / 2) b).2 ≠ 0 ∧ LD w' g n (turnR d k (n / 2) b).1 D' ∧ KGn w' c ∧ ¬ D' c ∧ c < w'.heap.size))))
set_option maxHeartbeats 16000000 in
theorem kturn0_any (w : World) (g c n t p : Nat) (L : List (List B8)) (d : Dr) (D E : Nat → Prop) (A : Option Addr) (cb : Nat) (b : List B8) (h : KAt w g c n d ⟨0, t, L, p⟩ D E) (hoff : d.off = false) (hn : n ≤ 8192) (hs : SlN w (fun j => D j ∨ E j) A (b.map bv)) (hA : A = none → cb = 0) (hc : b.length ≤ cb) (hlen : b.length ≤ 900000) (hW : d.W.length + n / 2 + 1024 < 10000) :
    Calls Tryd.prog 18 #[.pointer (some ⟨c, 0, none⟩), .slice A b.length cb] w (TPost g c n d ⟨0, t, L, p⟩ b D E w) := by
  have HK := Lib.hid h
  obtain ⟨ld, ok, ⟨s, hd, Ah, ch, NV, o, vs, bx, sb, hL1, hh, hAh, hch, ho, hv, hsc, hEs, hNE⟩, hEc, two, dj, lt⟩ := h
  have US := Lib.hid (kused_yes c g _ _ _ _ _ _ w bx)
  have ht : t ≤ 1099511627776 := ok.t
  have hcD : ¬ D c := dj c hEc
  obtain ⟨q, hq⟩ : ∃ q, q = t + 1 := ⟨_, rfl⟩
  have hqi : (t : Int) + 1 = (q : Int) := by omega
  have hw1 : IntKind.i64.wrap ((t : Int) + 1) = (q : Int) := by rw [IntWalk.i64_in _ (by omega)]; omega
  obtain ⟨hf, hhf⟩ : ∃ x, x = n / 2 := ⟨_, rfl⟩
  have hfn : hf ≤ 4096 := by omega
  have td : Turn (fun _ => False) w w.drew := (Turn.refl _ _).drew
  have FM := lform_any (q : Int) 0 A cb b w.drew (glob_turn ld.glob td) (Bts.of_sl (hs.turn (N' := fun _ => False) td (fun _ h => h.elim) (fun _ _ h => h.elim)).sl) hA hc hlen
  obtain ⟨fe, hfe⟩ : ∃ e, e = formE13 (q : Int) 0 b := ⟨_, rfl⟩
  obtain ⟨F, hF⟩ : ∃ e, e = formV13 (q : Int) 0 b := ⟨_, rfl⟩
  have hFE : fe = 0 → F.length = 64 * (F.length / 64) ∧ F.length / 64 ≤ 1024 := fun e => by rw [hF]; exact formE_or q 0 b (show formE13 (q : Int) 0 b = 0 by rw [← hfe]; exact e)
  have hTP : turnP ⟨0, t, L, p⟩ hf b = if fe ≠ 0 then fe else if hf < F.length / 64 then 18 else 0 := by
    unfold turnP secsOf
    show (if formE13 ((t + 1 : Nat) : Int) 0 b ≠ 0 then _ else if hf < (formV13 ((t + 1 : Nat) : Int) 0 b).length / 64 then 18 else 0) = _
    rw [← hq, ← hfe, ← hF]
  have hfe63 : fe = 0 ∨ fe = 4 ∨ fe = 5 := by
    rw [hfe]; unfold formE13; split
    · exact .inr (.inr rfl)
    · split
      · exact .inr (.inl rfl)
      · exact .inl rfl
  have hF64 : F.length ≤ 65600 := by rw [hF]; exact formV13_le _ _ _
  rw [← hfe, ← hF] at FM
  have HTP := Lib.hid hTP
  have HFE := Lib.hid hFE
  have FM := Lib.hid FM
  rw [← hhf] at bx
  have BX := Lib.hid bx
  obtain ⟨c0, c1, c2, c3, c4, c5, c6, c7, -, -⟩ := bx.cells
  have HSS := Lib.hid hs
  have HAC := Lib.hid (And.intro hA hc)
  have HQ := Lib.hid (show TPost g c n d ⟨0, t, L, p⟩ b D E w = fun r w' => ∃ D' E', (∀ j, D' j → Dn D w w' j) ∧ (∀ j, E' j → Dn E w w' j) ∧ Turn (fun j => D j ∨ E j) w w' ∧
      ((turnP ⟨0, t, L, p⟩ hf b ≠ 0 ∧ r = .returned (.int .i64 (turnP ⟨0, t, L, p⟩ hf b : Int)) ∧ KAt w' g c n d ⟨0, t, L, p⟩ D' E') ∨
       (turnP ⟨0, t, L, p⟩ hf b = 0 ∧ r = .returned (.int .i64 ((layR d (1 * hf) hf q b).2 : Int)) ∧
        (((layR d (1 * hf) hf q b).2 = 0 ∧ KAt w' g c n (layR d (1 * hf) hf q b).1 ⟨1, q, [b], 1 * hf + secsOf (formV13 q 0 b)⟩ D' E') ∨
         ((layR d (1 * hf) hf q b).2 ≠ 0 ∧ LD w' g n (layR d (1 * hf) hf q b).1 D' ∧ KGn w' c ∧ ¬ D' c ∧ c < w'.heap.size)))) by
    funext r w'; unfold TPost turnR; rw [← hhf, hq]; rfl)
  have HLEN := Lib.hid hlen
  have HHF := Lib.hid hhf
  have HW := Lib.hid hW
  have HF := Lib.hid hF
  have HQT := Lib.hid (show q ≤ mostS ∨ fe ≠ 0 from by
    by_cases hqm : q ≤ mostS
    · exact .inl hqm
    · refine .inr ?_
      rw [hfe]; unfold formE13
      rw [if_pos (by omega)]; decide)
  have HTWO := Lib.hid two
  obtain ⟨lb, hlb⟩ : ∃ l, l = b.length := ⟨_, rfl⟩
  rw [← hlb] at FM ⊢
  have HLB := Lib.hid hlb
  clear hlb ld ok bx sb hL1 hh hAh hch ho hv hNE two dj lt hs hA hc hTP hFE hfe hF hhf hW hq hqi td
  go_enter Tryd.func18, Tryd.ntmps18
  go_upto_region 3 with (go_at_call 38; refine US.out.mono ?_; clear US; rintro r w1 ⟨rfl, hw⟩; rw [hw]; clear hw)
  go_region_held3 (fun w' => w'.cell? ⟨c, 6, none⟩ = some (.int .i64 0) ∧ w'.cell? ⟨c, 7, none⟩ = some (.int .i64 (t : Int)))
    (exact ⟨c6, c7⟩)
    (fail)
  go_wp2_with (go_at_call 43; refine stop ?_)
  unfold Stop
  refine FM.out.mono ?_
  rintro r wa ⟨A3, cc3, rfl, s3, a3, l3, t3⟩
  have T3 := Lib.hid (show Turn (fun _ => False) w wa from ((Turn.refl (fun _ => False) w).drew).trans t3 (fun _ _ h => h))
  have B3 := Lib.hid (BX.out.turn T3.out (fun h => h))
  have K3 := Lib.hid (HK.out.quiet T3.out)
  obtain ⟨m, hm⟩ : ∃ m, m = F.length := ⟨_, rfl⟩
  rw [← hm] at hF64 l3 HFE HTP ⊢
  have HM := Lib.hid hm
  clear FM s3 t3 hm c0 c1 c2 c3 c4 c5 c6 c7
  obtain ⟨c0, c1, c2, c3, c4, c5, c6, c7, -, -⟩ := B3.out.cells
  by_cases h0 : fe = 0
  rotate_left 1
  · have d0 : ((fe : Int) != 0) = true := by rw [bne_iff_ne]; omega
    have H0 := Lib.hid h0
    clear h0 hfe63
    go_wp2
    go_ret
    rw [HQ.out, HTP.out, if_pos H0.out]
    exact ⟨D, E, fun j hj => .inl hj, fun j hj => .inl hj, T3.out.mono (fun _ _ h => h.elim), .inl ⟨H0.out, rfl, K3.out⟩⟩
  have d0 : ((fe : Int) != 0) = false := by rw [bne_eq_false_iff_eq]; omega
  obtain ⟨hm64, hm10⟩ := HFE.out h0
  have HTP2 := Lib.hid (HTP.out.trans (if_neg (by rw [h0]; simp)))
  have hwm : IntKind.i64.wrap ((hf : Int) * 64) = (hf : Int) * 64 := IntWalk.i64_in _ (by omega)
  have HQM := Lib.hid (show q ≤ mostS from HQT.out.resolve_right (fun h => h h0))
  clear h0 hfe63
  by_cases hfull : hf < m / 64
  · have dl : decide ((hf : Int) * 64 < (m : Int)) = true := decide_eq_true (by omega)
    have HE := Lib.hid (HTP2.out.trans (if_pos hfull))
    clear hfull hm64 hm10
    go_wp2
    go_ret
    rw [HQ.out, HE.out]
    exact ⟨D, E, fun j hj => .inl hj, fun j hj => .inl hj, T3.out.mono (fun _ _ h => h.elim), .inl ⟨by decide, rfl, K3.out⟩⟩
  have dl : decide ((hf : Int) * 64 < (m : Int)) = false := decide_eq_false (by omega)
  have HE := Lib.hid (HTP2.out.trans (if_neg hfull))
  have LY := lay_any wa g c n 1 q d D _ _ _ _ _ A cb b (by omega) K3.out.ld hoff hn (by rw [← HHF.out]; exact B3.out) hcD (HTWO.out c hEc) HQM.out HW.out (HSS.out.turn (N' := fun j => D j ∨ j = c) T3.out (fun _ h => h.elim) (fun j _ h => h.elim .inl (fun e => by rw [e]; exact .inr hEc))) HAC.out.1 HAC.out.2 HLEN.out
  rw [← HLB.out] at LY
  have LY := Lib.hid LY
  clear hfull HTP2 hm64 hm10
  go_wp2_with (go_at_call 44; refine stop ?_)
  unfold Stop
  refine LY.out.mono ?_
  rintro r w4 ⟨D4, hD4, rfl, hpost⟩
  rw [← HHF.out] at hpost ⊢
  have DD4 := Lib.hid (show ∀ j, D4 j → Dn D w w4 j from fun j hj => (hD4 j hj).elim .inl (fun h => .inr ⟨Nat.le_trans T3.out.size h.1, h.2⟩))
  have HCW := Lib.hid (HK.out.lt c hEc)
  rcases hpost with ⟨he, E4, k4, hE4, t4⟩ | ⟨he, l4, t4⟩
  · have K4 := Lib.hid k4
    have HE4 := Lib.hid hE4
    have T4 := Lib.hid t4
    have HH := Lib.hid he
    rw [he]
    clear he k4 hE4 t4 LY hD4
    go_wp2
    go_ret
    rw [HQ.out]
    exact ⟨D4, E4, DD4.out, fun j hj => (HE4.out j hj).elim (fun e => by rw [e]; exact .inl hEc) (fun h => .inr ⟨Nat.le_trans T3.out.size h.1, h.2⟩), (T3.out.mono (fun _ _ h => h.elim)).trans T4.out (fun j _ h => h.elim .inl (fun e => by rw [e]; exact .inr hEc)), .inr ⟨HE.out, (by rw [HH.out]; rfl), .inl ⟨HH.out, K4.out⟩⟩⟩
  · obtain ⟨er, her⟩ : ∃ e, e = (layR d (1 * hf) hf q b).2 := ⟨_, rfl⟩
    have L4 := Lib.hid l4
    have T4 := Lib.hid t4
    rw [← her] at he ⊢
    have HER := Lib.hid her
    have d2 : ((er : Int) != 0) = true := by rw [bne_iff_ne]; omega
    have H2 := Lib.hid he
    have b4 := B3.out.turn t4 hcD
    have EN := Lib.hid (kends_any c _ _ _ _ _ (er : Int) _ _ w4 b4)
    have hc4 : ¬ D4 c := fun h => (DD4.out c h).elim hcD (fun h => by have := h.1; have := HCW.out; omega)
    clear he l4 t4 LY hD4 her b4
    go_wp2_with (go_at_call 41; refine stop ?_)
    unfold Stop
    refine EN.out.mono ?_
    rintro r w5 ⟨rfl, b5, t5⟩
    have B5 := Lib.hid b5
    have T5 := Lib.hid t5
    clear EN b5 t5
    go_wp2
    go_ret
    rw [HQ.out]
    exact ⟨D4, E, fun j hj => (DD4.out j hj).elim .inl (fun h => .inr ⟨h.1, Nat.lt_of_lt_of_le h.2 T5.out.size⟩), fun j hj => .inl hj, ((T3.out.mono (fun _ _ h => h.elim)).trans T4.out (fun _ _ h => .inl h)).trans T5.out (fun j _ e => by have e : j = c := e; subst e; exact .inr hEc), .inr ⟨HE.out, (by rw [← HER.out]; rfl), .inr ⟨by rw [← HER.out]; exact H2.out, L4.out.keep T5.out (fun j hj e => by have e : j = c := e; subst e; exact hc4 hj) (fun j e => by have e : j = c := e; subst e; exact HTWO.out _ hEc), ⟨_, _, _, _, _, _, B5.out⟩, hc4, B5.out.lt⟩⟩⟩
set_option maxHeartbeats 16000000 in
theorem kturn1_any (w : World) (g c n t p : Nat) (L : List (List B8)) (d : Dr) (D E : Nat → Prop) (A : Option Addr) (cb : Nat) (b : List B8) (h : KAt w g c n d ⟨1, t, L, p⟩ D E) (hoff : d.off = false) (hn : n ≤ 8192) (hs : SlN w (fun j => D j ∨ E j) A (b.map bv)) (hA : A = none → cb = 0) (hc : b.length ≤ cb) (hlen : b.length ≤ 900000) (hW : d.W.length + n / 2 + 1024 < 10000) :
    Calls Tryd.prog 18 #[.pointer (some ⟨c, 0, none⟩), .slice A b.length cb] w (TPost g c n d ⟨1, t, L, p⟩ b D E w) := by
  have HK := Lib.hid h
  obtain ⟨ld, ok, ⟨s, hd, Ah, ch, NV, o, vs, bx, sb, hL1, hh, hAh, hch, ho, hv, hsc, hEs, hNE⟩, hEc, two, dj, lt⟩ := h
  have US := Lib.hid (kused_yes c g _ _ _ _ _ _ w bx)
  have ht : t ≤ 1099511627776 := ok.t
  have hcD : ¬ D c := dj c hEc
  obtain ⟨q, hq⟩ : ∃ q, q = t + 1 := ⟨_, rfl⟩
  have hqi : (t : Int) + 1 = (q : Int) := by omega
  have hw1 : IntKind.i64.wrap ((t : Int) + 1) = (q : Int) := by rw [IntWalk.i64_in _ (by omega)]; omega
  obtain ⟨hf, hhf⟩ : ∃ x, x = n / 2 := ⟨_, rfl⟩
  have hfn : hf ≤ 4096 := by omega
  have td : Turn (fun _ => False) w w.drew := (Turn.refl _ _).drew
  have FM := lform_any (q : Int) 0 A cb b w.drew (glob_turn ld.glob td) (Bts.of_sl (hs.turn (N' := fun _ => False) td (fun _ h => h.elim) (fun _ _ h => h.elim)).sl) hA hc hlen
  obtain ⟨fe, hfe⟩ : ∃ e, e = formE13 (q : Int) 0 b := ⟨_, rfl⟩
  obtain ⟨F, hF⟩ : ∃ e, e = formV13 (q : Int) 0 b := ⟨_, rfl⟩
  have hFE : fe = 0 → F.length = 64 * (F.length / 64) ∧ F.length / 64 ≤ 1024 := fun e => by rw [hF]; exact formE_or q 0 b (show formE13 (q : Int) 0 b = 0 by rw [← hfe]; exact e)
  have hTP : turnP ⟨1, t, L, p⟩ hf b = if fe ≠ 0 then fe else if hf < F.length / 64 then 18 else 0 := by
    unfold turnP secsOf
    show (if formE13 ((t + 1 : Nat) : Int) 0 b ≠ 0 then _ else if hf < (formV13 ((t + 1 : Nat) : Int) 0 b).length / 64 then 18 else 0) = _
    rw [← hq, ← hfe, ← hF]
  have hfe63 : fe = 0 ∨ fe = 4 ∨ fe = 5 := by
    rw [hfe]; unfold formE13; split
    · exact .inr (.inr rfl)
    · split
      · exact .inr (.inl rfl)
      · exact .inl rfl
  have hF64 : F.length ≤ 65600 := by rw [hF]; exact formV13_le _ _ _
  rw [← hfe, ← hF] at FM
  have HTP := Lib.hid hTP
  have HFE := Lib.hid hFE
  have FM := Lib.hid FM
  rw [← hhf] at bx
  have BX := Lib.hid bx
  obtain ⟨c0, c1, c2, c3, c4, c5, c6, c7, -, -⟩ := bx.cells
  have HSS := Lib.hid hs
  have HAC := Lib.hid (And.intro hA hc)
  have HQ := Lib.hid (show TPost g c n d ⟨1, t, L, p⟩ b D E w = fun r w' => ∃ D' E', (∀ j, D' j → Dn D w w' j) ∧ (∀ j, E' j → Dn E w w' j) ∧ Turn (fun j => D j ∨ E j) w w' ∧
      ((turnP ⟨1, t, L, p⟩ hf b ≠ 0 ∧ r = .returned (.int .i64 (turnP ⟨1, t, L, p⟩ hf b : Int)) ∧ KAt w' g c n d ⟨1, t, L, p⟩ D' E') ∨
       (turnP ⟨1, t, L, p⟩ hf b = 0 ∧ r = .returned (.int .i64 ((layR d (0 * hf) hf q b).2 : Int)) ∧
        (((layR d (0 * hf) hf q b).2 = 0 ∧ KAt w' g c n (layR d (0 * hf) hf q b).1 ⟨0, q, [b], 0 * hf + secsOf (formV13 q 0 b)⟩ D' E') ∨
         ((layR d (0 * hf) hf q b).2 ≠ 0 ∧ LD w' g n (layR d (0 * hf) hf q b).1 D' ∧ KGn w' c ∧ ¬ D' c ∧ c < w'.heap.size)))) by
    funext r w'; unfold TPost turnR; rw [← hhf, hq]; rfl)
  have HLEN := Lib.hid hlen
  have HHF := Lib.hid hhf
  have HW := Lib.hid hW
  have HF := Lib.hid hF
  have HQT := Lib.hid (show q ≤ mostS ∨ fe ≠ 0 from by
    by_cases hqm : q ≤ mostS
    · exact .inl hqm
    · refine .inr ?_
      rw [hfe]; unfold formE13
      rw [if_pos (by omega)]; decide)
  have HTWO := Lib.hid two
  obtain ⟨lb, hlb⟩ : ∃ l, l = b.length := ⟨_, rfl⟩
  rw [← hlb] at FM ⊢
  have HLB := Lib.hid hlb
  clear hlb ld ok bx sb hL1 hh hAh hch ho hv hNE two dj lt hs hA hc hTP hFE hfe hF hhf hW hq hqi td
  go_enter Tryd.func18, Tryd.ntmps18
  go_upto_region 3 with (go_at_call 38; refine US.out.mono ?_; clear US; rintro r w1 ⟨rfl, hw⟩; rw [hw]; clear hw)
  go_region_held3 (fun w' => w'.cell? ⟨c, 6, none⟩ = some (.int .i64 1) ∧ w'.cell? ⟨c, 7, none⟩ = some (.int .i64 (t : Int)))
    (exact ⟨c6, c7⟩)
    (fail)
  go_wp2_with (go_at_call 43; refine stop ?_)
  unfold Stop
  refine FM.out.mono ?_
  rintro r wa ⟨A3, cc3, rfl, s3, a3, l3, t3⟩
  have T3 := Lib.hid (show Turn (fun _ => False) w wa from ((Turn.refl (fun _ => False) w).drew).trans t3 (fun _ _ h => h))
  have B3 := Lib.hid (BX.out.turn T3.out (fun h => h))
  have K3 := Lib.hid (HK.out.quiet T3.out)
  obtain ⟨m, hm⟩ : ∃ m, m = F.length := ⟨_, rfl⟩
  rw [← hm] at hF64 l3 HFE HTP ⊢
  have HM := Lib.hid hm
  clear FM s3 t3 hm c0 c1 c2 c3 c4 c5 c6 c7
  obtain ⟨c0, c1, c2, c3, c4, c5, c6, c7, -, -⟩ := B3.out.cells
  by_cases h0 : fe = 0
  rotate_left 1
  · have d0 : ((fe : Int) != 0) = true := by rw [bne_iff_ne]; omega
    have H0 := Lib.hid h0
    clear h0 hfe63
    go_wp2
    go_ret
    rw [HQ.out, HTP.out, if_pos H0.out]
    exact ⟨D, E, fun j hj => .inl hj, fun j hj => .inl hj, T3.out.mono (fun _ _ h => h.elim), .inl ⟨H0.out, rfl, K3.out⟩⟩
  have d0 : ((fe : Int) != 0) = false := by rw [bne_eq_false_iff_eq]; omega
  obtain ⟨hm64, hm10⟩ := HFE.out h0
  have HTP2 := Lib.hid (HTP.out.trans (if_neg (by rw [h0]; simp)))
  have hwm : IntKind.i64.wrap ((hf : Int) * 64) = (hf : Int) * 64 := IntWalk.i64_in _ (by omega)
  have HQM := Lib.hid (show q ≤ mostS from HQT.out.resolve_right (fun h => h h0))
  clear h0 hfe63
  by_cases hfull : hf < m / 64
  · have dl : decide ((hf : Int) * 64 < (m : Int)) = true := decide_eq_true (by omega)
    have HE := Lib.hid (HTP2.out.trans (if_pos hfull))
    clear hfull hm64 hm10
    go_wp2
    go_ret
    rw [HQ.out, HE.out]
    exact ⟨D, E, fun j hj => .inl hj, fun j hj => .inl hj, T3.out.mono (fun _ _ h => h.elim), .inl ⟨by decide, rfl, K3.out⟩⟩
  have dl : decide ((hf : Int) * 64 < (m : Int)) = false := decide_eq_false (by omega)
  have HE := Lib.hid (HTP2.out.trans (if_neg hfull))
  have LY := lay_any wa g c n 0 q d D _ _ _ _ _ A cb b (by omega) K3.out.ld hoff hn (by rw [← HHF.out]; exact B3.out) hcD (HTWO.out c hEc) HQM.out HW.out (HSS.out.turn (N' := fun j => D j ∨ j = c) T3.out (fun _ h => h.elim) (fun j _ h => h.elim .inl (fun e => by rw [e]; exact .inr hEc))) HAC.out.1 HAC.out.2 HLEN.out
  rw [← HLB.out] at LY
  have LY := Lib.hid LY
  clear hfull HTP2 hm64 hm10
  go_wp2_with (go_at_call 44; refine stop ?_)
  unfold Stop
  refine LY.out.mono ?_
  rintro r w4 ⟨D4, hD4, rfl, hpost⟩
  rw [← HHF.out] at hpost ⊢
  have DD4 := Lib.hid (show ∀ j, D4 j → Dn D w w4 j from fun j hj => (hD4 j hj).elim .inl (fun h => .inr ⟨Nat.le_trans T3.out.size h.1, h.2⟩))
  have HCW := Lib.hid (HK.out.lt c hEc)
  rcases hpost with ⟨he, E4, k4, hE4, t4⟩ | ⟨he, l4, t4⟩
  · have K4 := Lib.hid k4
    have HE4 := Lib.hid hE4
    have T4 := Lib.hid t4
    have HH := Lib.hid he
    rw [he]
    clear he k4 hE4 t4 LY hD4
    go_wp2
    go_ret
    rw [HQ.out]
    exact ⟨D4, E4, DD4.out, fun j hj => (HE4.out j hj).elim (fun e => by rw [e]; exact .inl hEc) (fun h => .inr ⟨Nat.le_trans T3.out.size h.1, h.2⟩), (T3.out.mono (fun _ _ h => h.elim)).trans T4.out (fun j _ h => h.elim .inl (fun e => by rw [e]; exact .inr hEc)), .inr ⟨HE.out, (by rw [HH.out]; rfl), .inl ⟨HH.out, K4.out⟩⟩⟩
  · obtain ⟨er, her⟩ : ∃ e, e = (layR d (0 * hf) hf q b).2 := ⟨_, rfl⟩
    have L4 := Lib.hid l4
    have T4 := Lib.hid t4
    rw [← her] at he ⊢
    have HER := Lib.hid her
    have d2 : ((er : Int) != 0) = true := by rw [bne_iff_ne]; omega
    have H2 := Lib.hid he
    have b4 := B3.out.turn t4 hcD
    have EN := Lib.hid (kends_any c _ _ _ _ _ (er : Int) _ _ w4 b4)
    have hc4 : ¬ D4 c := fun h => (DD4.out c h).elim hcD (fun h => by have := h.1; have := HCW.out; omega)
    clear he l4 t4 LY hD4 her b4
    go_wp2_with (go_at_call 41; refine stop ?_)
    unfold Stop
    refine EN.out.mono ?_
    rintro r w5 ⟨rfl, b5, t5⟩
    have B5 := Lib.hid b5
    have T5 := Lib.hid t5
    clear EN b5 t5
    go_wp2
    go_ret
    rw [HQ.out]
    exact ⟨D4, E, fun j hj => (DD4.out j hj).elim .inl (fun h => .inr ⟨h.1, Nat.lt_of_lt_of_le h.2 T5.out.size⟩), fun j hj => .inl hj, ((T3.out.mono (fun _ _ h => h.elim)).trans T4.out (fun _ _ h => .inl h)).trans T5.out (fun j _ e => by have e : j = c := e; subst e; exact .inr hEc), .inr ⟨HE.out, (by rw [← HER.out]; rfl), .inr ⟨by rw [← HER.out]; exact H2.out, L4.out.keep T5.out (fun j hj e => by have e : j = c := e; subst e; exact hc4 hj) (fun j e => by have e : j = c := e; subst e; exact HTWO.out _ hEc), ⟨_, _, _, _, _, _, B5.out⟩, hc4, B5.out.lt⟩⟩⟩
theorem kturn_any (w : World) (g c n : Nat) (k : Ck) (d : Dr) (D E : Nat → Prop) (A : Option Addr) (cb : Nat) (b : List B8) (h : KAt w g c n d k D E) (hoff : d.off = false) (hn : n ≤ 8192) (hs : SlN w (fun j => D j ∨ E j) A (b.map bv)) (hA : A = none → cb = 0) (hc : b.length ≤ cb) (hlen : b.length ≤ 900000) (hW : d.W.length + n / 2 + 1024 < 10000) :
    Calls Tryd.prog 18 #[.pointer (some ⟨c, 0, none⟩), .slice A b.length cb] w (TPost g c n d k b D E w) := by
  have ha := h.ok.a
  obtain ⟨a, t, L, p⟩ := k
  have ha : a ≤ 1 := ha
  rcases Nat.lt_or_ge a 1 with h1 | h1
  · obtain rfl : a = 0 := by omega
    exact kturn0_any w g c n t p L d D E A cb b h hoff hn hs hA hc hlen hW
  · obtain rfl : a = 1 := by omega
    exact kturn1_any w g c n t p L d D E A cb b h hoff hn hs hA hc hlen hW
end
section
set_option linter.unusedVariables false
set_option linter.unusedSimpArgs false
open Go.RowKit
set_option maxRecDepth 100000
/-- The turn that Peek tells of a side; 0, if there is none. -/
def pkT (d : Dr) (n i : Nat) : Nat := match peekV n d ((i * (n / 2) : Nat) : Int) ((n / 2 : Nat) : Int) with
  | none => 0
  | some r => r.t
def fndK (d : Dr) (n i : Nat) (x : Nat × Nat) : Nat × Nat := if x.2 < pkT d n i then (i, pkT d n i) else x
def fndF (d : Dr) (n : Nat) : Nat → Nat × Nat → Nat × Nat
  | 0, x => fndK d n 1 (fndK d n 0 x)
  | 1, x => fndK d n 1 x
  | _ + 2, x => x
/-- Which side is live, and its turn. -/
def fnd (d : Dr) (n : Nat) : Nat × Nat := fndF d n 0 (0, 0)
set_option maxHeartbeats 16000000 in
theorem kfind_any (w : World) (g c n : Nat) (d : Dr) (D : Nat → Prop) (PS H NV : Value) (ld : LD w g n d D) (hn : n ≤ 8192) (bx : KBox w c PS (.pointer (some ⟨g, 0, none⟩)) ((n / 2 : Nat) : Int) 0 0 H NV) (hcD : ¬ D c) (hc2 : 2 ≤ c) :
    Calls Tryd.prog 32 #[.pointer (some ⟨c, 0, none⟩)] w fun r w' => (∃ v, r = .returned v) ∧ KBox w' c PS (.pointer (some ⟨g, 0, none⟩)) ((n / 2 : Nat) : Int) (fnd d n).1 (fnd d n).2 H NV ∧ Turn (fun k => k = c) w w' := by
  obtain ⟨hf, hhf⟩ : ∃ x, x = n / 2 := ⟨_, rfl⟩
  have hfn : hf ≤ 4096 := by omega
  rw [← hhf] at bx ⊢
  have KS := Lib.hid (show (Tryd.prog.info? 48).map (·.size) = some 4 by kernel_rfl)
  have HR := Lib.hid (show w.rangeAt c 2 [.int .i64 0, .int .i64 hf, .int .i64 hf, .int .i64 hf] from by
    obtain ⟨-, -, c2, c3, c4, c5, -⟩ := bx.cells
    intro j v hj
    match j, hj with
    | 0, hj => injection hj with hj; subst hj; exact c2
    | 1, hj => injection hj with hj; subst hj; exact c3
    | 2, hj => injection hj with hj; subst hj; exact c4
    | 3, hj => injection hj with hj; subst hj; exact c5)
  have BX := Lib.hid bx
  have LX := Lib.hid ld
  have HHF := Lib.hid hhf
  clear bx ld hhf
  go_enter Tryd.func32, Tryd.ntmps32
  go_wp2_with (refine wpList_load_mid rfl 48 _ rfl c 2 rfl [.int .i64 0, .int .i64 hf, .int .i64 hf, .int .i64 hf] _ HR.out Tryd.underlying48 rfl KS.out ?_)
  go_loopw [11] (fun iv wr => ∃ (i : Nat) (x1_ : Nat × Nat), i ≤ 2 ∧ iv = .int .i64 (i : Int) ∧ KBox wr c PS (.pointer (some ⟨g, 0, none⟩)) hf x1_.1 x1_.2 H NV ∧ fndF d n i x1_ = fnd d n ∧ LD wr g n d D ∧ Turn (fun k => k = c) w wr) (fun iv _ => 2 - (intOf iv).toNat)
  case atStart => exact ⟨0, (0, 0), by omega, rfl, BX.out, rfl, LX.out, Turn.refl _ _⟩
  case round =>
    obtain ⟨i, x1_, hi, rfl, hb, hx, hl, ht⟩ := hrel
    have BI := Lib.hid hb
    have HF := Lib.hid hx
    have LI := Lib.hid hl
    have TI := Lib.hid ht
    clear hb hx hl ht
    by_cases hi2 : i < 2
    · rcases (show i = 0 ∨ i = 1 by omega) with rfl | rfl
      · -- side 0
        have td : Turn (fun _ => False) wr (wr.alloc (.cells #[.int .i64 0, .int .i64 hf] 47)) := (Turn.refl _ _).alloc _
        obtain ⟨w1, hw1⟩ : ∃ w1, w1 = wr.alloc (.cells #[.int .i64 0, .int .i64 hf] 47) := ⟨_, rfl⟩
        obtain ⟨x, hx⟩ : ∃ x, x = wr.heap.size := ⟨_, rfl⟩
        rw [← hw1] at td
        have X1 := Lib.hid (show w1.heap[x]? = some (.cells #[.int .i64 0, .int .i64 hf] 47 (0, 0)) by rw [hw1, hx]; exact heap_alloc_new _ _)
        have B1 := Lib.hid (BI.out.turn td (fun h => h))
        have PK := lpeek_any w1.drew g n d D 0 (hf : Int) ((LI.out.quiet td).quiet ((Turn.refl _ _).drew)) hn (by omega)
        have PK := Lib.hid (PK.mono (R' := fun r w' => ∃ (T : Nat) (v : Value) (ok : Bool), r = .returned (.tuple #[.int .i64 (T : Int), v, .bool ok]) ∧ (ok = true → pkT d n 0 = T) ∧ (ok = false → pkT d n 0 = 0) ∧ Turn (fun _ => False) w1.drew w') (fun r w' h => by
          have hp : pkT d n 0 = match peekV n d 0 (hf : Int) with | none => 0 | some r => r.t := by
            unfold pkT
            rw [← HHF.out, show ((0 * hf : Nat) : Int) = 0 by omega]
          rw [hp]
          clear hp
          obtain ⟨h1, h2⟩ := h
          revert h1
          cases peekV n d 0 (hf : Int) with
          | none => intro h1; exact ⟨0, _, false, h1, (fun e => by cases e), fun _ => rfl, h2⟩
          | some y => intro h1; obtain ⟨A, c, h1, -⟩ := h1; exact ⟨y.t, _, true, h1, fun _ => rfl, (fun e => by cases e), h2⟩))
        have TD := Lib.hid td
        have IX : ∀ wx : World, (Instr.index 48 (.agg #[.int .i64 0, .int .i64 hf, .int .i64 hf, .int .i64 hf]) (.int .i64 0)).run Tryd.prog wx = .ok (.agg #[.int .i64 0, .int .i64 hf]) wx := fun wx => by kernel_rfl
        clear td
        go_upto_region 3 with fail
        change Code.wp _ _ _ _ (wr.alloc (.cells #[.int .i64 0, .int .i64 hf] 47))
        rw [← hw1, ← hx]
        clear hw1 hx
        obtain ⟨-, q1, -⟩ := B1.out.cells
        have x0 : w1.cell? ⟨x, 0, none⟩ = some (.int .i64 0) := by rw [cell_of_row _ _ _ _ _ _ X1.out]; rfl
        have x1 : w1.cell? ⟨x, 1, none⟩ = some (.int .i64 hf) := by rw [cell_of_row _ _ _ _ _ _ X1.out]; rfl
        go_region_held3 (fun w' => w'.cell? ⟨c, 1, none⟩ = some (.pointer (some ⟨g, 0, none⟩)) ∧ w'.cell? ⟨x, 0, none⟩ = some (.int .i64 0) ∧ w'.cell? ⟨x, 1, none⟩ = some (.int .i64 hf))
          (first | exact ⟨q1, x0, x1⟩ | exact ⟨k1, y0, y1⟩)
          (first
            | (go_at_call 52; refine PK.out.mono ?_; clear PK; rintro r w3 ⟨T, v, ok, rfl, ht1, ht0, t3⟩; have HT1 := Lib.hid ht1; have HT0 := Lib.hid ht0; have T3 := Lib.hid t3; have k1 := t3.cell (show w1.drew.cell? _ = _ from q1) (fun h => h); have y0 := t3.cell (show w1.drew.cell? _ = _ from x0) (fun h => h); have y1 := t3.cell (show w1.drew.cell? _ = _ from x1) (fun h => h); clear ht1 ht0 t3))
        clear k1 y0 y1 q1 x0 x1
        have TW := Lib.hid (show Turn (fun _ => False) wr w3 from (TD.out.drew).trans T3.out (fun _ _ h => h))
        have B3 := Lib.hid (BI.out.turn TW.out (fun h => h))
        have L3 := Lib.hid (LI.out.quiet TW.out)
        obtain ⟨-, -, -, -, -, -, c6, c7, -, -⟩ := B3.out.cells
        have z6 := B3.out.frozen 6
        have z7 := B3.out.frozen 7
        have TI3 := Lib.hid (show Turn (fun k => k = c) w w3 from TI.out.trans TW.out (fun _ _ h => h.elim))
        cases ok with
        | false =>
          have HX := Lib.hid (show fndF d n 1 x1_ = fnd d n from by
            rw [← HF.out]
            show _ = fndF d n 1 (fndK d n 0 x1_)
            unfold fndK
            rw [HT0.out rfl, if_neg (by omega)])
          go_wp2
          go_roundw
          case rel => exact ⟨1, x1_, by omega, by go_num, B3.out, HX.out, L3.out, TI3.out⟩
          case measure => simp [intOf]
        | true =>
          by_cases hgt : x1_.2 < T
          · have dg : decide ((x1_.2 : Int) < (T : Int)) = true := decide_eq_true (by omega)
            have dg' : decide (x1_.2 < T) = true := decide_eq_true hgt
            have HX := Lib.hid (show fndF d n 1 (0, T) = fnd d n from by
              rw [← HF.out]
              show _ = fndF d n 1 (fndK d n 0 x1_)
              unfold fndK
              rw [HT1.out rfl, if_pos hgt])
            clear hgt
            go_wp2
            go_roundw
            case rel =>
              refine ⟨1, (0, T), by omega, by go_num, (B3.out.set6 0).set7 (T : Int), HX.out, ?_, ?_⟩
              · exact L3.out.keep (((Turn.refl (fun k => k = c) w3).setCell ⟨c, 6, none⟩ _ (fun _ => rfl)).setCell ⟨c, 7, none⟩ _ (fun _ => rfl)) (fun k hk e => by have e : k = c := e; subst e; exact hcD hk) (fun k e => by have e : k = c := e; subst e; exact hc2)
              · exact (TI3.out.setCell ⟨c, 6, none⟩ _ (fun _ => rfl)).setCell ⟨c, 7, none⟩ _ (fun _ => rfl)
            case measure => simp [intOf]
          · have dg : decide ((x1_.2 : Int) < (T : Int)) = false := decide_eq_false (by omega)
            have dg' : decide (x1_.2 < T) = false := decide_eq_false hgt
            have HX := Lib.hid (show fndF d n 1 x1_ = fnd d n from by
              rw [← HF.out]
              show _ = fndF d n 1 (fndK d n 0 x1_)
              unfold fndK
              rw [HT1.out rfl, if_neg hgt])
            clear hgt
            go_wp2
            go_roundw
            case rel => exact ⟨1, x1_, by omega, by go_num, B3.out, HX.out, L3.out, TI3.out⟩
            case measure => simp [intOf]
      · -- side 1
        have td : Turn (fun _ => False) wr (wr.alloc (.cells #[.int .i64 (hf : Int), .int .i64 hf] 47)) := (Turn.refl _ _).alloc _
        obtain ⟨w1, hw1⟩ : ∃ w1, w1 = wr.alloc (.cells #[.int .i64 (hf : Int), .int .i64 hf] 47) := ⟨_, rfl⟩
        obtain ⟨x, hx⟩ : ∃ x, x = wr.heap.size := ⟨_, rfl⟩
        rw [← hw1] at td
        have X1 := Lib.hid (show w1.heap[x]? = some (.cells #[.int .i64 (hf : Int), .int .i64 hf] 47 (0, 0)) by rw [hw1, hx]; exact heap_alloc_new _ _)
        have B1 := Lib.hid (BI.out.turn td (fun h => h))
        have PK := lpeek_any w1.drew g n d D (hf : Int) (hf : Int) ((LI.out.quiet td).quiet ((Turn.refl _ _).drew)) hn (by omega)
        have PK := Lib.hid (PK.mono (R' := fun r w' => ∃ (T : Nat) (v : Value) (ok : Bool), r = .returned (.tuple #[.int .i64 (T : Int), v, .bool ok]) ∧ (ok = true → pkT d n 1 = T) ∧ (ok = false → pkT d n 1 = 0) ∧ Turn (fun _ => False) w1.drew w') (fun r w' h => by
          have hp : pkT d n 1 = match peekV n d (hf : Int) (hf : Int) with | none => 0 | some r => r.t := by
            unfold pkT
            rw [← HHF.out, show ((1 * hf : Nat) : Int) = (hf : Int) by omega]
          rw [hp]
          clear hp
          obtain ⟨h1, h2⟩ := h
          revert h1
          cases peekV n d (hf : Int) (hf : Int) with
          | none => intro h1; exact ⟨0, _, false, h1, (fun e => by cases e), fun _ => rfl, h2⟩
          | some y => intro h1; obtain ⟨A, c, h1, -⟩ := h1; exact ⟨y.t, _, true, h1, fun _ => rfl, (fun e => by cases e), h2⟩))
        have TD := Lib.hid td
        have IX : ∀ wx : World, (Instr.index 48 (.agg #[.int .i64 0, .int .i64 hf, .int .i64 hf, .int .i64 hf]) (.int .i64 1)).run Tryd.prog wx = .ok (.agg #[.int .i64 (hf : Int), .int .i64 hf]) wx := fun wx => by kernel_rfl
        clear td
        go_upto_region 3 with fail
        change Code.wp _ _ _ _ (wr.alloc (.cells #[.int .i64 (hf : Int), .int .i64 hf] 47))
        rw [← hw1, ← hx]
        clear hw1 hx
        obtain ⟨-, q1, -⟩ := B1.out.cells
        have x0 : w1.cell? ⟨x, 0, none⟩ = some (.int .i64 (hf : Int)) := by rw [cell_of_row _ _ _ _ _ _ X1.out]; rfl
        have x1 : w1.cell? ⟨x, 1, none⟩ = some (.int .i64 hf) := by rw [cell_of_row _ _ _ _ _ _ X1.out]; rfl
        go_region_held3 (fun w' => w'.cell? ⟨c, 1, none⟩ = some (.pointer (some ⟨g, 0, none⟩)) ∧ w'.cell? ⟨x, 0, none⟩ = some (.int .i64 (hf : Int)) ∧ w'.cell? ⟨x, 1, none⟩ = some (.int .i64 hf))
          (first | exact ⟨q1, x0, x1⟩ | exact ⟨k1, y0, y1⟩)
          (first
            | (go_at_call 52; refine PK.out.mono ?_; clear PK; rintro r w3 ⟨T, v, ok, rfl, ht1, ht0, t3⟩; have HT1 := Lib.hid ht1; have HT0 := Lib.hid ht0; have T3 := Lib.hid t3; have k1 := t3.cell (show w1.drew.cell? _ = _ from q1) (fun h => h); have y0 := t3.cell (show w1.drew.cell? _ = _ from x0) (fun h => h); have y1 := t3.cell (show w1.drew.cell? _ = _ from x1) (fun h => h); clear ht1 ht0 t3))
        clear k1 y0 y1 q1 x0 x1
        have TW := Lib.hid (show Turn (fun _ => False) wr w3 from (TD.out.drew).trans T3.out (fun _ _ h => h))
        have B3 := Lib.hid (BI.out.turn TW.out (fun h => h))
        have L3 := Lib.hid (LI.out.quiet TW.out)
        obtain ⟨-, -, -, -, -, -, c6, c7, -, -⟩ := B3.out.cells
        have z6 := B3.out.frozen 6
        have z7 := B3.out.frozen 7
        have TI3 := Lib.hid (show Turn (fun k => k = c) w w3 from TI.out.trans TW.out (fun _ _ h => h.elim))
        cases ok with
        | false =>
          have HX := Lib.hid (show fndF d n 2 x1_ = fnd d n from by
            rw [← HF.out]
            show _ = fndF d n 2 (fndK d n 1 x1_)
            unfold fndK
            rw [HT0.out rfl, if_neg (by omega)])
          go_wp2
          go_roundw
          case rel => exact ⟨2, x1_, by omega, by go_num, B3.out, HX.out, L3.out, TI3.out⟩
          case measure => simp [intOf]
        | true =>
          by_cases hgt : x1_.2 < T
          · have dg : decide ((x1_.2 : Int) < (T : Int)) = true := decide_eq_true (by omega)
            have dg' : decide (x1_.2 < T) = true := decide_eq_true hgt
            have HX := Lib.hid (show fndF d n 2 (1, T) = fnd d n from by
              rw [← HF.out]
              show _ = fndF d n 2 (fndK d n 1 x1_)
              unfold fndK
              rw [HT1.out rfl, if_pos hgt])
            clear hgt
            go_wp2
            go_roundw
            case rel =>
              refine ⟨2, (1, T), by omega, by go_num, (B3.out.set6 1).set7 (T : Int), HX.out, ?_, ?_⟩
              · exact L3.out.keep (((Turn.refl (fun k => k = c) w3).setCell ⟨c, 6, none⟩ _ (fun _ => rfl)).setCell ⟨c, 7, none⟩ _ (fun _ => rfl)) (fun k hk e => by have e : k = c := e; subst e; exact hcD hk) (fun k e => by have e : k = c := e; subst e; exact hc2)
              · exact (TI3.out.setCell ⟨c, 6, none⟩ _ (fun _ => rfl)).setCell ⟨c, 7, none⟩ _ (fun _ => rfl)
            case measure => simp [intOf]
          · have dg : decide ((x1_.2 : Int) < (T : Int)) = false := decide_eq_false (by omega)
            have dg' : decide (x1_.2 < T) = false := decide_eq_false hgt
            have HX := Lib.hid (show fndF d n 2 x1_ = fnd d n from by
              rw [← HF.out]
              show _ = fndF d n 2 (fndK d n 1 x1_)
              unfold fndK
              rw [HT1.out rfl, if_neg hgt])
            clear hgt
            go_wp2
            go_roundw
            case rel => exact ⟨2, x1_, by omega, by go_num, B3.out, HX.out, L3.out, TI3.out⟩
            case measure => simp [intOf]
    · obtain rfl : i = 2 := by omega
      go_wp2
      go_end0
      have e : x1_ = fnd d n := HF.out
      rw [← e]
      exact ⟨⟨_, rfl⟩, BI.out, TI.out⟩
end
end Go.Proofs.YtajdcekkmikbcaaDoor
