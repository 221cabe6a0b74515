/- Merged: The landed chest's Keep. The landed scan and Open once more: the list's own row is told. The landed scroll's Fits. The document's Fresh. -/
import Derived.Test.YtajdcekkmikbcaaDoorM40
import Derived.WalkMore
namespace Go.Proofs.YtajdcekkmikbcaaDoor
section
set_option linter.unusedVariables false
set_option linter.unusedSimpArgs false
open Go.RowKit
set_option maxRecDepth 100000
theorem cpyT_turn {S : Nat → Prop} {B : Nat} {b : List B8} {v : Value} {w w' : World} (h : CpyT B b v w) (t : Turn S w w') (hS : ∀ k, S k → k < B) : CpyT B b v w' := by
  obtain ⟨A, c, rfl, ho⟩ := h
  refine ⟨A, c, rfl, own_turn t ho (fun g e hs => ?_)⟩
  have h1 := hS g hs
  rcases ho.2 with ⟨e0, -⟩ | ⟨g', c', cur, e0, hg, -⟩
  · rw [e0] at e; cases e
  · rw [e0] at e; injection e with e
    have e : g' = g := e
    omega
theorem slT_turn {S : Nat → Prop} {B : Nat} {b : List B8} {v : Value} {w w' : World} (h : SlT B b v w) (t : Turn S w w') (hS : ∀ k, S k → k < B) : SlT B b v w' := by
  obtain ⟨g, X, h1, h2, h3, h4⟩ := h
  exact ⟨g, X, h1, h2, t.heap h3 (fun h => by have := hS g h; omega), cpyT_turn h4 t hS⟩
theorem turn_stp {w w' : World} (t : Turn (fun _ => False) w w') : Stp w w' := ⟨t.os, t.tape, t.output, t.size, fun i hi => t.block i hi (fun h => h)⟩
theorem writeE_vals (d : Dr) (a : Int) (s : Sec) : d.writeE a s ≠ 4 ∧ d.writeE a s ≠ 18 := by
  unfold Dr.writeE Dr.readE
  refine ⟨?_, ?_⟩ <;> (repeat' split) <;> omega
theorem putR_vals : ∀ (l : List Sec) (d : Dr) (a : Nat), (putR d a l).2 ≠ 4 ∧ (putR d a l).2 ≠ 18
  | [], d, a => ⟨by show (0 : Nat) ≠ 4; omega, by show (0 : Nat) ≠ 18; omega⟩
  | s :: l, d, a => by
    rw [putR]
    split
    · exact writeE_vals d a s
    · exact putR_vals l _ _
theorem own_less {w : World} {base base' s n : Nat} {e : TypeId} {v : Value} {xs : List Value} (h : w.ownsRow base e s v n xs) (hb : base' ≤ base) : w.ownsRow base' e s v n xs := by
  obtain ⟨h1, h2⟩ := h
  refine ⟨h1, ?_⟩
  rcases h2 with h2 | ⟨g, c, cur, e, hg, r⟩
  · exact .inl h2
  · exact .inr ⟨g, c, cur, e, Nat.le_trans hb hg, r⟩
theorem cpyT_of {B : Nat} {b : List B8} {v : Value} {w : World} (h : w.ownsRow B 5 1 v b.length (b.map bv)) : CpyT B b v w := by
  obtain ⟨A, c, rfl, -⟩ := own_sl h
  exact ⟨A, c, rfl, h⟩
theorem cpyT_one {B : Nat} {b : List B8} {v : Value} {w : World} (h : CpyT B b v w) : v.oneCell' = true := by
  obtain ⟨A, c, rfl, -⟩ := h; rfl
/-- What a Keep comes to. -/
def KPost (g c n : Nat) (d : Dr) (k : Ck) (b : List B8) (D E : Nat → Prop) (w : World) (r : Ending) (w' : World) : Prop :=
  ∃ D' E', r = .returned (.int .i64 ((k.scr (n / 2)).putE d b : Int)) ∧ (∀ j, D' j → Dn D w w' j) ∧ (∀ j, E' j → Dn E w w' j) ∧ Turn (fun j => D j ∨ E j) w w' ∧
    (((k.scr (n / 2)).putE d b = 0 ∧ KAt w' g c n ((k.scr (n / 2)).putD d b) ⟨k.a, k.t, k.L ++ [b], k.p + secsOf (formV13 k.t k.L.length b)⟩ D' E') ∨
     ((k.scr (n / 2)).pre b ≠ 0 ∧ KAt w' g c n d k D' E') ∨
     ((k.scr (n / 2)).putE d b ≠ 0 ∧ (k.scr (n / 2)).pre b = 0 ∧ LD w' g n ((k.scr (n / 2)).putD d b) D' ∧ KGn w' c ∧ ¬ D' c ∧ c < w'.heap.size))
theorem ck_pre {k : Ck} {n : Nat} (h : k.Ok n) (b : List B8) : (k.scr (n / 2)).pre b = 0 ∨ (k.scr (n / 2)).pre b = 4 ∨ (k.scr (n / 2)).pre b = 18 := by
  have ht := h.t
  have hm := h.m
  unfold Scr.pre
  rw [if_neg (by simp [Ck.scr])]
  split
  · rename_i h1
    refine .inr (.inl ?_)
    show formE13 (k.t : Int) (k.L.length : Int) b = 4
    have h1 : formE13 (k.t : Int) (k.L.length : Int) b ≠ 0 := h1
    unfold formE13 mostS at *
    rw [if_neg (by omega)] at h1 ⊢
    split
    · rfl
    · rename_i h2; rw [if_neg h2] at h1; exact absurd rfl h1
  · split
    · exact .inr (.inr rfl)
    · exact .inl rfl
theorem kkeep_gone (c : Nat) (A : Option Addr) (cb : Nat) (m : Nat) (w : World) (h : KGn w c) : Calls Tryd.prog 15 #[.pointer (some ⟨c, 0, none⟩), .slice A m cb] w fun r w' => r = .returned (.int .i64 20) ∧ w' = w := by
  obtain ⟨PS, half, a, t, H, NV, hb⟩ := h
  have US := Lib.hid (kused_no c PS half a t H NV w hb)
  clear hb
  go_enter Tryd.func15, Tryd.ntmps15
  go_wp2_with (go_at_call 38; refine US.out.mono ?_; clear US; rintro r w1 ⟨rfl, hw⟩; rw [hw]; clear hw)
  go_ret
  exact ⟨rfl, rfl⟩
set_option maxHeartbeats 16000000 in
theorem kkeep_any (w : World) (g c n : Nat) (d : Dr) (k : Ck) (D E : Nat → Prop) (A : Option Addr) (cb : Nat) (b : List B8) (h : KAt w g c n d k D E) (hn : n ≤ 8192) (hs : SlN w (fun j => D j ∨ E j) A (b.map bv)) (hA : A = none → cb = 0) (hc : b.length ≤ cb) (hlen : b.length ≤ 900000) (hL : k.L.length < 1000000) (hW : d.W.length + 1024 < 10000) :
    Calls Tryd.prog 15 #[.pointer (some ⟨c, 0, none⟩), .slice A b.length cb] w (KPost g c n d k b D E w) := by
  obtain ⟨ld, ok, ⟨s, hd, Ah, ch, NV, o, vs, bx, sb, hL1, hh, hAh, hch, ho, hv, hsc, hEs, hNE⟩, hEc, two, dj, lt⟩ := h
  have hfin := ok.fin
  have hpre := ck_pre ok b
  have US := Lib.hid (kused_yes c g _ _ _ _ _ _ w bx)
  have sbE : SBp w s g (k.scr (n / 2)) (fun j => j = s) := sb
  have ats : Ats SBp w g s n d (k.scr (n / 2)) D (fun j => j = s) := ⟨ld, sb, fun j e => by subst e; exact dj _ hEs, fun j e => by subst e; exact lt _ hEs⟩
  have PU := Lib.hid (lput_any w g s n d (k.scr (n / 2)) D (fun j => j = s) A cb b ats hn (fun _ => ⟨ok.t, ok.p, hfin, by show k.L.length ≤ mostS; unfold mostS; omega⟩) (hs.turn (Turn.refl (fun _ => False) _) (fun _ h => h.elim) (fun j _ h => h.elim .inl (fun e => by subst e; exact .inr hEs))) hA hc hlen hW)
  obtain ⟨c0, c1, -⟩ := bx.cells
  have BX := Lib.hid bx
  have HO := Lib.hid ho
  have HV := Lib.hid hv
  have HH := Lib.hid (And.intro hAh hch)
  have HHS := Lib.hid hh
  have HL1 := Lib.hid hL1
  have HOK := Lib.hid ok
  have HDJ := Lib.hid dj
  have HLT := Lib.hid lt
  have HTWO := Lib.hid two
  have HNE := Lib.hid hNE
  have HSS := Lib.hid hs
  have HAC := Lib.hid (And.intro hA hc)
  have LDW := Lib.hid ld
  obtain ⟨sc, hsc0⟩ : ∃ x, x = k.scr (n / 2) := ⟨_, rfl⟩
  have hKP : KPost g c n d k b D E w = fun r w' => ∃ D' E', r = .returned (.int .i64 (sc.putE d b : Int)) ∧ (∀ j, D' j → Dn D w w' j) ∧ (∀ j, E' j → Dn E w w' j) ∧ Turn (fun j => D j ∨ E j) w w' ∧
    ((sc.putE d b = 0 ∧ KAt w' g c n (sc.putD d b) ⟨k.a, k.t, k.L ++ [b], k.p + secsOf (formV13 k.t k.L.length b)⟩ D' E') ∨ (sc.pre b ≠ 0 ∧ KAt w' g c n d k D' E') ∨ (sc.putE d b ≠ 0 ∧ sc.pre b = 0 ∧ LD w' g n (sc.putD d b) D' ∧ KGn w' c ∧ ¬ D' c ∧ c < w'.heap.size)) := by
    subst hsc0; rfl
  have hQQ := hKP
  clear hKP
  rw [← hsc0] at PU hpre
  have HSC := Lib.hid hsc0
  obtain ⟨PE, hPE⟩ : ∃ x, x = sc.putE d b := ⟨_, rfl⟩
  obtain ⟨PD, hPD⟩ : ∃ x, x = sc.putD d b := ⟨_, rfl⟩
  obtain ⟨PR, hPR⟩ : ∃ x, x = sc.pre b := ⟨_, rfl⟩
  have hE0 : PR ≠ 0 → PE = PR := fun h0 => by rw [hPE]; unfold Scr.putE; rw [if_pos (by rw [← hPR]; exact h0), ← hPR]
  have hD0 : PR ≠ 0 → PD = d := fun h0 => by rw [hPD]; unfold Scr.putD; rw [if_pos (by rw [← hPR]; exact h0)]
  have hS0 : ∀ s', PR ≠ 0 → sc.PutS d b s' → s' = sc := fun s' h0 hp => by unfold Scr.PutS at hp; rw [if_pos (by rw [← hPR]; exact h0)] at hp; exact hp
  have hS1 : ∀ s', PE = 0 → sc.PutS d b s' → s' = ⟨sc.pos + secsOf (sc.form b), sc.fin, sc.turn, sc.n + 1, false⟩ := fun s' h0 hp => by
    have hp0 : sc.pre b = 0 := by
      by_cases hq : sc.pre b = 0
      · exact hq
      · have := hE0 (by rw [hPR]; exact hq); rw [← hPR] at hq; omega
    unfold Scr.PutS at hp
    rw [if_neg (by rw [hp0]; simp)] at hp
    have ha : (sc.all d b).2 = 0 := by
      have h1 : sc.putE d b = (sc.all d b).2 := by unfold Scr.putE; rw [if_neg (by rw [hp0]; simp)]
      rw [← h1, ← hPE, h0]
    rw [if_pos ha] at hp
    exact hp
  rw [← hPE, ← hPD] at PU
  rw [← hPE, ← hPD, ← hPR] at hQQ
  have HQQ := Lib.hid hQQ
  rw [← hPR] at hpre
  have hPV : PR = 0 → PE ≠ 4 ∧ PE ≠ 18 := fun h0 => by
    rw [hPE]; unfold Scr.putE; rw [if_neg (by rw [← hPR, h0]; simp)]
    exact putR_vals _ _ _
  have hroom : PE = 0 → k.p + secsOf (formV13 k.t k.L.length b) ≤ k.fin (n / 2) := fun h0 => by
    have hp0 : sc.pre b = 0 := by
      by_cases hq : sc.pre b = 0
      · exact hq
      · have := hE0 (by rw [hPR]; exact hq); rw [← hPR] at hq; omega
    unfold Scr.pre at hp0
    split at hp0
    · cases hp0
    · split at hp0
      · rename_i h2; exact absurd hp0 h2
      · split at hp0
        · cases hp0
        · rename_i h3
          rw [hsc0] at h3
          have h3 : ¬ k.fin (n / 2) < k.p + secsOf (formV13 k.t k.L.length b) := h3
          omega
  have HPV := Lib.hid hPV
  have HROOM := Lib.hid hroom
  have HLL := Lib.hid hL
  have HLEN := Lib.hid hlen
  have HE0 := Lib.hid hE0
  have HD0 := Lib.hid hD0
  have HS0 := Lib.hid hS0
  have HS1 := Lib.hid hS1
  have HPR := Lib.hid hpre
  have hcs : c ≠ s := fun e => hsc e.symm
  have hcD : ¬ D c := dj c hEc
  clear hQQ hPV hroom hE0 hD0 hS0 hS1 hPE hPD hPR hpre hsc0 bx ho hv hAh hch hh hL1 ok dj lt two hNE hs hA hc ld ats sb sbE hfin
  obtain ⟨lb, hlb⟩ : ∃ l, l = b.length := ⟨_, rfl⟩
  rw [← hlb] at PU ⊢
  have HLB := Lib.hid hlb
  clear hlb
  go_enter Tryd.func15, Tryd.ntmps15
  go_wp2_with (first
    | (go_at_call 38; refine US.out.mono ?_; clear US; rintro r w1 ⟨rfl, hw⟩; rw [hw]; clear hw)
    | (go_at_call 39; refine stop ?_))
  unfold Stop
  refine PU.out.mono ?_
  rintro r wa ⟨D1, sc1, rfl, at1, ps1, hD1, t1⟩
  have hct : ¬ (D c ∨ c = s) := fun h => h.elim hcD hcs
  have B1 := Lib.hid (BX.out.turn t1 hct)
  have AT1 := Lib.hid at1
  have PS1 := Lib.hid ps1
  have HD1 := Lib.hid hD1
  have T1 := Lib.hid t1
  have NIN := Lib.hid (show ∀ j, j < w.heap.size → (D1 j ∨ E j) → (D j ∨ E j) from fun j hj h => h.elim (fun h => (hD1 j h).elim .inl (fun h => by have := h.1; omega)) .inr)
  have SIN := Lib.hid (show ∀ j, (D j ∨ j = s) → (D j ∨ E j) from fun j h => h.elim .inl (fun e => by subst e; exact .inr hEs))
  have HH1 := Lib.hid (HHS.out.turn (N' := fun j => D1 j ∨ E j) t1 SIN.out NIN.out)
  have V1 := Lib.hid (HV.out.turn (N' := fun j => D1 j ∨ E j) t1 SIN.out NIN.out)
  have O1 := Lib.hid (ownsO_turn HO.out t1 (fun j hj hh => by
    obtain ⟨e1, e2, e3⟩ := HNE.out j hj
    exact hh.elim (HDJ.out j e1) e2))
  have SS1 := Lib.hid (show SlN wa.drew (fun j => D1 j ∨ E j) A (b.map bv) from HSS.out.turn (N' := fun j => D1 j ∨ E j) t1.drew SIN.out NIN.out)
  have DJ1 := Lib.hid (show ∀ j, E j → ¬ D1 j from fun j hj hd => (hD1 j hd).elim (HDJ.out j hj) (fun h => by have := HLT.out j hj; have := h.1; omega))
  have LT1 := Lib.hid (show ∀ j, E j → j < wa.heap.size from fun j hj => Nat.lt_of_lt_of_le (HLT.out j hj) t1.size)
  have SZ1 := Lib.hid t1.size
  have T1E := Lib.hid (show Turn (fun j => D j ∨ E j) w wa from t1.mono (fun j _ h => SIN.out j h))
  clear PU BX HO HV HHS HSS c0 c1 at1 ps1 hD1 t1
  have HPEV := Lib.hid (show PR = 0 → PE ≠ 4 ∧ PE ≠ 18 from fun h => HPV.out h)
  by_cases h0 : PE = 0
  rotate_left 1
  · have d0 : ((PE : Int) == 0) = false := by rw [beq_eq_false_iff_ne]; omega
    by_cases hp : PR = 0
    · -- an error of the drum
      have hv := HPEV.out hp
      have d4 : ((PE : Int) == 4) = false := by rw [beq_eq_false_iff_ne]; omega
      have d18 : ((PE : Int) == 18) = false := by rw [beq_eq_false_iff_ne]; omega
      have EN := Lib.hid (kends_any c _ _ _ _ _ (PE : Int) _ _ wa B1.out)
      have HP := Lib.hid (And.intro h0 hp)
      clear h0 hp hv
      go_wp2_with (go_at_call 41; refine stop ?_)
      unfold Stop
      refine EN.out.mono ?_
      rintro r w2 ⟨rfl, b2, t2⟩
      have B2 := Lib.hid b2
      have T2 := Lib.hid t2
      clear EN b2 t2
      go_wp2
      go_ret
      rw [HQQ.out]
      refine ⟨D1, E, rfl, fun j hj => (HD1.out j hj).elim .inl (fun h => .inr ⟨h.1, Nat.lt_of_lt_of_le h.2 T2.out.size⟩), fun j hj => .inl hj, T1E.out.trans T2.out (fun j _ e => by have e : j = c := e; subst e; exact .inr hEc), .inr (.inr ⟨HP.out.1, HP.out.2, AT1.out.ld.keep T2.out (fun j hj e => by have e : j = c := e; subst e; exact DJ1.out _ hEc hj) (fun j e => by have e : j = c := e; subst e; exact HTWO.out _ hEc), ⟨_, _, _, _, _, _, B2.out⟩, fun hd => DJ1.out c hEc hd, Nat.lt_of_lt_of_le (LT1.out c hEc) T2.out.size⟩)⟩
    · -- refused ahead of the drum
      have e1 := HE0.out hp
      have e2 := HD0.out hp
      have e3 := HS0.out _ hp PS1.out
      have LDD := AT1.out.ld
      have SBB := AT1.out.sb
      rw [e2] at LDD
      rw [e3, HSC.out] at SBB
      have KA := Lib.hid (show KAt wa g c n d k D1 E from ⟨LDD, HOK.out, ⟨s, hd, Ah, ch, NV, o, vs, B1.out, SBB, HL1.out, HH1.out, HH.out.1, HH.out.2, O1.out, V1.out, hsc, hEs, HNE.out⟩, hEc, HTWO.out, DJ1.out, LT1.out⟩)
      have HP := Lib.hid hp
      rcases HPR.out with h | h | h
      · exact absurd h hp
      · rw [h] at e1
        have d4 : ((PE : Int) == 4) = true := by rw [beq_iff_eq]; omega
        clear h0 hp e2 e3 LDD SBB h e1
        go_wp2
        go_ret
        rw [HQQ.out]
        exact ⟨D1, E, rfl, HD1.out, fun j hj => .inl hj, T1E.out, .inr (.inl ⟨HP.out, KA.out⟩)⟩
      · rw [h] at e1
        have d4 : ((PE : Int) == 4) = false := by rw [beq_eq_false_iff_ne]; omega
        have d18 : ((PE : Int) == 18) = true := by rw [beq_iff_eq]; omega
        clear h0 hp e2 e3 LDD SBB h e1
        go_wp2
        go_ret
        rw [HQQ.out]
        exact ⟨D1, E, rfl, HD1.out, fun j hj => .inl hj, T1E.out, .inr (.inl ⟨HP.out, KA.out⟩)⟩
  have d0 : ((PE : Int) == 0) = true := by rw [beq_iff_eq]; omega
  have e3 := HS1.out _ h0 PS1.out
  have LD1 := Lib.hid AT1.out.ld
  have SB1 := Lib.hid (show SBp wa s g ⟨k.p + secsOf (formV13 k.t k.L.length b), k.fin (n / 2), k.t, k.L.length + 1, false⟩ (fun j => j = s) from by
    have h1 := AT1.out.sb
    rw [e3, HSC.out] at h1
    exact h1)
  have H0 := Lib.hid h0
  clear h0 e3 AT1 PS1 HE0 HD0 HS0 HS1 HPEV HPV HPR
  obtain ⟨AN, cN, eN, hvl, hnc, hcm, hAN, hcells, hlt⟩ := ownsO_sl O1.out
  obtain ⟨q0, q1, q2, q3, q4, q5, q6, q7, q8, q9⟩ := B1.out.cells
  obtain ⟨m, hm⟩ : ∃ m, m = k.L.tail.length := ⟨_, rfl⟩
  rw [← hm] at eN O1 hvl hnc
  have HM := Lib.hid hm
  have hrowc : NV.ownBlock ≠ some c := fun e => (HNE.out c e).2.2 rfl
  have HB : ∀ q, NV.ownBlock = some q → q < wa.heap.size := hlt
  have HBr := Lib.hid HB
  have HRS : ∀ (u : Value) (w1 w2 : World), CpyT wa.heap.size b u w1 → Turn (fun q => NV.ownBlock = some q) w1 w2 → CpyT wa.heap.size b u w2 := fun u w1 w2 h t => cpyT_turn h t (fun q e => HB q e)
  have hcap : ∀ q n' cR, NV = .slice (some ⟨q, o, none⟩) n' cR → cR = cN := fun q n' cR e => by rw [eN] at e; injection e with _ _ e; exact e.symm
  have hml : m ≤ 1000000 := by have := HOK.out.m; have h2 : k.L.tail.length ≤ k.L.length := by simp; 
                               omega
  have EN := Lib.hid eN
  have HCAP := Lib.hid hcap
  have VL := Lib.hid hvl
  clear eN hcap hcells hlt hvl hm hnc hcm hAN
  go_upto_region 7 with fail
  have S27 : ∀ (v : Value) (w1 w2 : World), CpyT wa.heap.size b v w1 → ApO 36 o m cN NV.ownBlock vs (CpyT wa.heap.size b) w1 w2 → CpyT wa.heap.size b v w2 := fun v w1 w2 h hs => HRS v w1 w2 h hs.t
  have S28 : ∀ (v : Value) (w1 w2 : World), SlT wa.heap.size b v w1 → ApO 36 o m cN NV.ownBlock vs (CpyT wa.heap.size b) w1 w2 → SlT wa.heap.size b v w2 := fun v w1 w2 h hs => slT_turn h hs.t (fun q e => HB q e)
  refine wp_region_rel_tail 11 36 (by kernel_rfl) (by kernel_rfl) (ApO 36 o m cN NV.ownBlock vs (CpyT wa.heap.size b)) [.one ?_, .one ?_, .one ?_, .one ?_, .one ?_, .one ?_, .rel (CpyT wa.heap.size b), .rel (SlT wa.heap.size b), .rel (ApdO 36 o m cN wa.heap.size NV.ownBlock vs (CpyT wa.heap.size b)), .one ?_, .one ?_] (by kernel_rfl) rfl (by kernel_rfl) ApO.refl (ApO.trans HRS) ⟨S27, S28, ApdO.stable HRS HB, trivial⟩ ?main
  case main =>
  simp only [List.take_succ_cons, List.take_zero, List.drop_succ_cons, List.drop_zero]
  iterate 4
    refine wpR_one (A' := ?_) ApO.refl (by rfl) _ rfl 36 (by rfl) (by rfl) ?_ ?_ ?_
    rotate_left 1
    · simp only [Act.put, List.setIfInBounds_toArray, List.set_cons_zero, List.set_cons_succ]; rfl
    · intro w1 hs hf K hK
      go_big_quiet_op
      first
        | go_big_quiet_on
        | (refine ⟨_, fun _ _ => rfl, ?_⟩; go_big_quiet_on)
      rfl
  refine wpR_one (A' := ?_) ApO.refl (by rfl) _ rfl 36 (by rfl) (by rfl) ?_ ?_ ?_
  rotate_left 1
  · simp only [Act.put, List.setIfInBounds_toArray, List.set_cons_zero, List.set_cons_succ]; rfl
  · intro w1 hs hf K hK
    refine cls_load_cell 31 (.tmp 24) rfl ⟨c, 9, none⟩ rfl NV (fun w h => by rw [EN.out] at h ⊢; simp [go_sem, h]) (fun w2 h2 => (ApO.trans HRS _ _ _ hs h2).cell (show wa.drew.cell? _ = _ from q9) hrowc) ?_
    refine hK _ ?_
    simp only [Act.put, List.setIfInBounds_toArray, List.set_cons_zero, List.set_cons_succ]
    rfl
  refine wpR_one (A' := ?_) ApO.refl (by rfl) _ rfl 36 (by rfl) (by rfl) ?_ ?_ ?_
  rotate_left 1
  · simp only [Act.put, List.setIfInBounds_toArray, List.set_cons_zero, List.set_cons_succ]; rfl
  · intro w1 hs hf K hK
    go_big_quiet_op
    first
      | go_big_quiet_on
      | (refine ⟨_, fun _ _ => rfl, ?_⟩; go_big_quiet_on)
    rfl
  refine wpR_rel (A' := ?_) (by rfl) ?_ ?_ ?_
  · intro w1 hs hf
    refine does_call (w' := w1) (f := 40) (args := #[.slice A lb cb]) (by kernel_rfl) ((clone_at A cb lb (fun j => D1 j ∨ E j) b w1 (SS1.out.turn hs.t (fun q e => .inr (HNE.out q e).1) (fun _ _ h => h)) HLB.out.symm HAC.out.1 (by rw [HLB.out]; exact HAC.out.2) (by rw [HLB.out]; have := HLEN.out; omega)).mono ?_)
    rintro r w2 ⟨v, rfl, ho2, t2⟩
    rw [HLB.out] at ho2
    have hB1 : wa.heap.size ≤ w1.heap.size := hs.t.size
    exact ⟨v, rfl, cpyT_of (own_less ho2 hB1), ApO.of_turn t2 (fun q e => Nat.lt_of_lt_of_le (HBr.out q e) hB1)⟩
  rotate_left 1
  · intro x
    simp only [Act.put, List.setIfInBounds_toArray, List.set_cons_zero, List.set_cons_succ]; rfl
  intro x27
  refine wpR_rel (A' := ?_) (by rfl) ?_ ?_ ?_
  · intro w1 hs hf
    obtain ⟨A27, c27, e27, ho27⟩ := AllF_at hf 0 rfl (by kernel_rfl)
    have e27 : x27 = .slice A27 b.length c27 := e27
    have ho27 : w1.ownsRow wa.heap.size 5 1 x27 b.length (b.map bv) := ho27
    rw [e27] at ho27
    have hB1 : wa.heap.size ≤ w1.heap.size := hs.t.size
    have tt : Turn (fun _ => False) w1 (w1.alloc (.cells #[.slice A27 b.length c27] 36)) := (Turn.refl _ _).alloc _
    refine does_build_slT (.tmp 27) rfl A27 b.length c27 (by rw [← e27]; rfl) ⟨⟨_, _, hB1, rfl, heap_alloc_new _ _, ⟨A27, c27, rfl, own_turn tt ho27 (fun _ _ h => h)⟩⟩, ApO.of_turn tt (fun q e => Nat.lt_of_lt_of_le (HBr.out q e) hB1)⟩
  rotate_left 1
  · intro x
    simp only [Act.put, List.setIfInBounds_toArray, List.set_cons_zero, List.set_cons_succ]; rfl
  intro x28
  refine wpR_rel (A' := ?_) (by rfl) ?_ ?_ ?_
  · intro w1 hs hf
    obtain ⟨g28, X28, hB28, e28, hh28, hc28⟩ := AllF_at hf 0 rfl (by kernel_rfl)
    obtain ⟨i, hi, hz, hs1, hby⟩ := info_parts info_sl
    have hB1 : wa.heap.size ≤ w1.heap.size := hs.t.size
    have hrow := hs.keepRow (base := 0) (v := NV) (show ownsO wa.drew 0 _ o NV m vs from ownsO_base O1.out (Nat.zero_le _)) rfl HCAP.out
    obtain ⟨v', w', hr, h3, h4⟩ := run_apO (P := Tryd.prog) (B := wa.heap.size) 31 31 i _ 24 Tryd.underlying31 hi hz hs1 hby rfl HRS w1 NV hrow rfl HCAP.out (fun q e => Nat.lt_of_lt_of_le (HBr.out q e) hB1) hB1 ⟨g28, 0, none⟩ 1 X28 (fun j x hj => by
      match j, hj with
      | 0, hj => injection hj with hj; subst hj; rw [Addr.add_lit, cell_of_row _ _ _ _ _ _ hh28]; rfl) (cpyT_one hc28) hc28 (by unfold maxLen; omega) (by omega)
    exact does_append _ _ _ _ _ v' rfl rfl e28 hr ⟨h3, h4⟩
  rotate_left 1
  · intro x
    simp only [Act.put, List.setIfInBounds_toArray, List.set_cons_zero, List.set_cons_succ]; rfl
  intro x29
  iterate 2
    refine wpR_one (A' := ?_) ApO.refl (by rfl) _ rfl 36 (by rfl) (by rfl) ?_ ?_ ?_
    rotate_left 1
    · simp only [Act.put, List.setIfInBounds_toArray, List.set_cons_zero, List.set_cons_succ]; rfl
    · intro w1 hs hf K hK
      go_big_quiet_op
      first
        | go_big_quiet_on
        | (refine ⟨_, fun _ _ => rfl, ?_⟩; go_big_quiet_on)
      rfl
  intro w9 hs hf
  obtain ⟨⟨u, o9, hu, ho9, hx9, hv9⟩, -⟩ := hf
  obtain ⟨g9, c9, rfl, hb9⟩ : ∃ g' c', x29 = .slice (some ⟨g', o9, none⟩) (m + 1) c' ∧ (NV.ownBlock = some g' ∨ wa.heap.size ≤ g') := by
    rcases hv9 with ⟨q, e, rfl, rfl⟩ | ⟨q, cq, hq, rfl⟩
    · exact ⟨q, _, rfl, .inl e⟩
    · exact ⟨q, cq, rfl, .inr hq⟩
  have B9 := Lib.hid (KBox.turn (w := wa.drew) B1.out hs.t (fun e => hrowc e))
  obtain ⟨-, -, -, -, -, -, -, -, -, p9⟩ := B9.out.cells
  have z9 := B9.out.frozen 9
  have T9 := Lib.hid (show Turn (fun q => NV.ownBlock = some q) wa w9 from ⟨hs.t.os, hs.t.tape, hs.t.output, hs.t.size, hs.t.block⟩)
  have HO9 := Lib.hid ho9
  have HU := Lib.hid hu
  clear hs hv9 ho9 hx9 hu q0 q1 q2 q3 q4 q5 q6 q7 q8 q9 S27 S28 HRS
  go_wp2
  go_ret
  have hne9 : g9 ≠ c := by
    rcases hb9 with e | e
    · intro e2; exact hrowc (by rw [e, e2])
    · have := LT1.out c hEc; omega
  have hne9s : g9 ≠ s := by
    rcases hb9 with e | e
    · intro e2; subst e2; exact (HNE.out _ e).2.1 rfl
    · have := LT1.out s hEs; omega
  have hD9 : ¬ D1 g9 := by
    rcases hb9 with e | e
    · exact DJ1.out _ (HNE.out _ e).1
    · intro h; have := LD1.out.lt _ h; omega
  have TC : Turn (fun q => q = c) w9 (w9.setCell ⟨c, 9, none⟩ (.slice (some ⟨g9, o9, none⟩) (m + 1) c9)) := (Turn.refl (fun q => q = c) w9).setCell ⟨c, 9, none⟩ _ (fun _ => rfl)
  have TZ : Turn (fun q => q = c ∨ NV.ownBlock = some q) wa (w9.setCell ⟨c, 9, none⟩ (.slice (some ⟨g9, o9, none⟩) (m + 1) c9)) := (T9.out.mono (fun _ _ h => .inr h)).trans TC (fun _ _ h => .inl h)
  have hZE : ∀ q, (q = c ∨ NV.ownBlock = some q) → E q := fun q h => h.elim (fun e => by subst e; exact hEc) (fun e => (HNE.out q e).1)
  have hZs : ¬ (s = c ∨ NV.ownBlock = some s) := fun h => h.elim hsc (fun e => (HNE.out s e).2.1 rfl)
  have ho10 := ownsO_turn HO9.out TC (fun q hq e => by injection hq with hq; have e : q = c := e; exact hne9 (hq.trans e))
  have hlt9 : g9 < (w9.setCell ⟨c, 9, none⟩ (.slice (some ⟨g9, o9, none⟩) (m + 1) c9)).heap.size := (ownsO_sl ho10).choose_spec.choose_spec.2.2.2.2.2.2 g9 rfl
  have hcp := cpyT_turn HU.out TC (fun q e => by have e : q = c := e; subst e; exact LT1.out _ hEc)
  obtain ⟨Au, cu, rfl, hou⟩ := hcp
  obtain ⟨Au', cu', eu, -, -, hcu, hau⟩ := own_sl hou
  injection eu with eu1 eu2 eu3
  subst eu1 eu3
  have hNin : ∀ j, j < wa.heap.size → (D1 j ∨ (E j ∨ j = g9)) → (D1 j ∨ E j) := fun j hj h => by
    rcases h with h | h | h
    · exact .inl h
    · exact .inr h
    · subst h
      rcases hb9 with e | e
      · exact .inr (HNE.out _ e).1
      · omega
  have htx : SlN (w9.setCell ⟨c, 9, none⟩ (.slice (some ⟨g9, o9, none⟩) (m + 1) c9)) (fun j => D1 j ∨ (E j ∨ j = g9)) Au (b.map bv) := by
    intro j x hj
    rcases hou.2 with ⟨-, h00⟩ | ⟨gu, cpu, curu, eu, hgu, hhu, hnu, hcu2, hsu, htu⟩
    · have : b = [] := List.eq_nil_of_length_eq_zero h00
      subst this; simp at hj
    · injection eu with eu1 eu2 eu3
      refine ⟨_, eu1, fun h => ?_, ?_⟩
      · have h : D1 gu ∨ (E gu ∨ gu = g9) := h
        rcases h with h | h | h
        · have := LD1.out.lt _ h; omega
        · have := LT1.out _ h; omega
        · subst h
          rcases ho10.2 with ⟨e, -⟩ | ⟨g', cp', cur', e, -, hh', -⟩
          · cases e
          · injection e with e; injection e with e; injection e with e
            subst e
            rw [hhu] at hh'
            injection hh' with hh'
            injection hh' with _ hh'
            exact absurd hh' (by decide)
      · rw [Addr.add_lit, cell_of_row _ _ _ _ _ _ hhu]
        have hj2 := (List.getElem?_eq_some_iff.1 hj).1
        rw [List.length_map] at hj2
        rw [← htu, List.getElem?_take, if_pos (by omega)] at hj
        rw [← Array.getElem?_toList, Nat.zero_add]
        exact hj
  have hv10 : TxtV (w9.setCell ⟨c, 9, none⟩ (.slice (some ⟨g9, o9, none⟩) (m + 1) c9)) (fun j => D1 j ∨ (E j ∨ j = g9)) (k.L.tail ++ [b]) (vs ++ [.slice Au b.length cu]) :=
    (V1.out.turn TZ (fun q h => .inr (hZE q h)) hNin).add hcu hau htx
  have htl : (k.L ++ [b]).tail = k.L.tail ++ [b] := by rw [HL1.out]; rfl
  have hlen2 : (k.L.tail ++ [b]).length = m + 1 := by rw [List.length_append, ← HM.out]; rfl
  rw [HQQ.out]
  refine ⟨D1, fun j => E j ∨ j = g9, (by rw [H0.out]; rfl), fun j hj => (HD1.out j hj).elim .inl (fun h => .inr ⟨h.1, Nat.lt_of_lt_of_le h.2 TZ.size⟩), fun j hj => ?_, T1E.out.trans TZ (fun q _ h => .inr (hZE q h)), .inl ⟨H0.out, ⟨LD1.out.keep TZ (fun q hq h => DJ1.out q (hZE q h) hq) (fun q h => HTWO.out q (hZE q h)), ⟨HOK.out.a, HOK.out.t, ?_, ?_, ?_, ?_⟩, ⟨s, hd, Ah, ch, _, o9, vs ++ [.slice Au b.length cu], B9.out.set9 _, ?_, ?_, HH1.out.turn TZ (fun q h => .inr (hZE q h)) hNin, HH.out.1, HH.out.2, ?_, ?_, hsc, .inl hEs, ?_⟩, .inl hEc, ?_, ?_, ?_⟩⟩⟩
  · rcases hj with h | h
    · exact .inl h
    · subst h
      rcases hb9 with e | e
      · exact .inl (HNE.out _ e).1
      · exact .inr ⟨by have := SZ1.out; omega, hlt9⟩
  · exact HROOM.out H0.out
  · show 1 ≤ (k.L ++ [b]).length
    simp
  · show (k.L ++ [b]).length ≤ 1000000
    rw [List.length_append, List.length_singleton]; have := HLL.out; omega
  · intro x hx
    rcases List.mem_append.1 hx with hx | hx
    · exact HOK.out.b x hx
    · simp at hx; rw [hx]; exact HLEN.out
  · show SBp _ s g (Scr.mk (k.p + secsOf (formV13 k.t k.L.length b)) (k.fin (n / 2)) k.t (k.L ++ [b]).length false) _
    rw [List.length_append, List.length_singleton]
    exact sbp_keep SB1.out TZ (fun q e => by subst e; exact hZs)
  · show k.L ++ [b] = hd :: (k.L ++ [b]).tail
    rw [htl, ← List.cons_append, ← HL1.out]
  · show ownsO _ 2 _ o9 _ (k.L ++ [b]).tail.length _
    rw [htl, hlen2]
    refine ⟨ho10.1, ?_⟩
    rcases ho10.2 with ⟨e, -⟩ | ⟨g', cp', cur', e, -, r⟩
    · cases e
    · refine .inr ⟨g', cp', cur', e, ?_, r⟩
      injection e with e; injection e with e; injection e with e
      rw [← e]
      rcases hb9 with e | e
      · exact HTWO.out _ (HNE.out _ e).1
      · have h2 := HTWO.out c hEc; have := LT1.out c hEc; omega
  · show TxtV _ _ (k.L ++ [b]).tail _
    rw [htl]; exact hv10
  · intro q hq
    injection hq with hq
    have hq : g9 = q := hq
    subst hq
    exact ⟨.inr rfl, hne9s, hne9⟩
  · intro j hj
    rcases hj with h | h
    · exact HTWO.out j h
    · subst h
      rcases hb9 with e | e
      · exact HTWO.out _ (HNE.out _ e).1
      · have h2 := HTWO.out c hEc; have := LT1.out c hEc; omega
  · intro j hj
    rcases hj with h | h
    · exact DJ1.out j h
    · subst h; exact hD9
  · intro j hj
    rcases hj with h | h
    · exact Nat.lt_of_lt_of_le (LT1.out j h) TZ.size
    · subst h; exact hlt9
end
section
set_option linter.unusedVariables false
set_option linter.unusedSimpArgs false
open Go.RowKit
set_option maxRecDepth 100000
set_option maxHeartbeats 16000000 in
theorem lscanO_any (N : Nat → Prop) (A : Option Addr) (c : Nat) (l : List B8) (T : Nat) (w : World) (hG : Glob w) (hs : SlN w N A (l.map bv)) (hA : A = none → c = 0) (hc : l.length ≤ c) (hlen : l.length ≤ 1000000) :
    Calls Tryd.prog 74 #[.slice A l.length c, .int .i64 (T : Int)] w fun r w' => ∃ A' c' A2 c2, r = .returned (.tuple #[.slice A' (scanN l T 0).1.length c', .slice A2 (l.length - 64 * (scanN l T 0).2) c2]) ∧ (∃ vs, w'.ownsRow w.heap.size 36 1 (.slice A' (scanN l T 0).1.length c') (scanN l T 0).1.length vs ∧ TxtV w' (fun k => k < w.heap.size ∨ (Value.slice A' (scanN l T 0).1.length c').ownBlock = some k) (scanN l T 0).1 vs) ∧ (A' = none → c' = 0) ∧ (scanN l T 0).1.length ≤ c' ∧
      SlN w' (fun k => N k ∨ w.heap.size ≤ k) A2 ((l.drop (64 * (scanN l T 0).2)).map bv) ∧ (A2 = none → c2 = 0) ∧ l.length - 64 * (scanN l T 0).2 ≤ c2 ∧ Turn (fun _ => False) w w' := by
  obtain ⟨i0, hi, hz0, hz1, hz2⟩ := info_parts info_sl
  have KR := Lib.hid (show (Tryd.prog.info? 124).map (·.size) = some ZRd.size ∧ ZRd.all (·.oneCell') = true from ⟨by kernel_rfl, by simp [ZRd, Value.oneCell']⟩)
  have SL := Lib.hid (hs.turn (N' := fun k => N k ∨ w.heap.size ≤ k) (Turn.refl (fun _ => False) _) (fun _ h => h.elim) (fun i hi h => h.elim id (fun h' => by omega)))
  have HG := Lib.hid hG
  have AC := Lib.hid (And.intro hA hc)
  obtain ⟨n, hn⟩ : ∃ n, n = l.length := ⟨_, rfl⟩
  rw [← hn] at hlen hc ⊢
  have HNL := Lib.hid hn
  obtain ⟨E, hE⟩ : ∃ E, E = scanN l T 0 := ⟨_, rfl⟩
  rw [← hE]
  have HE := Lib.hid hE
  clear hs hA hn hE hG
  go_enter Tryd.func74, Tryd.ntmps74
  go_wp2
  apply wp_scope_straight
  go_wp2
  apply wp_label
  go_wp2
  go_loopw [0, 6] (fun lv v wr => ∃ (xs : List (List B8)) (vs : List Value) (u : Nat) (A2 : Option Addr) (c2 : Nat), lv = .slice A2 (n - 64 * u) c2 ∧ 64 * u ≤ n ∧ xs.length ≤ u ∧ Srow wr w.heap.size v xs.length vs ∧ TxtV wr (fun k => k < w.heap.size ∨ v.ownBlock = some k) xs vs ∧ E = (xs ++ (scanN (l.drop (64 * u)) T xs.length).1, u + (scanN (l.drop (64 * u)) T xs.length).2) ∧ SlN wr (fun k => N k ∨ w.heap.size ≤ k) A2 ((l.drop (64 * u)).map bv) ∧ (A2 = none → c2 = 0) ∧ n - 64 * u ≤ c2 ∧ Turn (fun _ => False) w wr) (fun lv _ _ => lenS13 lv)
  case atStart => exact ⟨[], [], 0, A, c, rfl, by omega, by simp, World.ownsRow_nil _ _ _ _, ⟨rfl, fun i x h => by simp at h⟩, by rw [HE.out]; simp, SL.out, AC.out.1, by omega, Turn.refl _ _⟩
  case round =>
    obtain ⟨xs, vs, u, A2, c2, rfl, hun, hxu, ho, hv, he, hs2, ha2, hc2, ht⟩ := hrel
    obtain ⟨Av, cv, rfl, -, -, hcv, hav⟩ := own_sl (show wr.ownsRow _ _ _ _ _ _ from ho)
    have HO := Lib.hid (show wr.ownsRow w.heap.size 36 1 (.slice Av xs.length cv) xs.length vs from ho)
    have HV := Lib.hid hv
    have HEE := Lib.hid he
    have HT := Lib.hid ht
    have AV := Lib.hid (And.intro hcv hav)
    have hsz := ht.size
    obtain ⟨l2, hl2⟩ : ∃ x, x = l.drop (64 * u) := ⟨_, rfl⟩
    have hn2 : l2.length = n - 64 * u := by rw [hl2, List.length_drop, ← HNL.out]
    rw [← hl2] at hs2
    have SL2 := Lib.hid hs2
    have A2C := Lib.hid (And.intro ha2 hc2)
    have RD := lfirst_any A2 c2 l2 wr (glob_turn HG.out ht) hs2.sl ha2 (by rw [hn2]; exact hc2) (by rw [hn2]; omega)
    rw [hn2] at RD
    have RD := Lib.hid RD
    rw [← hl2] at HEE
    have HL2 := Lib.hid hl2
    have HN2 := Lib.hid hn2
    clear ho hv he ht hcv hav hl2 hs2 ha2 hn2
    obtain ⟨W3, eW3⟩ : ∃ W3, W3 = wr := ⟨_, rfl⟩
    subst eW3
    go_wp2_with (go_at_call 72; refine stop ?_)
    unfold Stop
    refine RD.out.mono ?_
    rintro r wa hp
    unfold LfPost at hp
    clear RD
    cases hr : readS l2 with
    | none =>
      rw [hr] at hp
      obtain ⟨rfl, ta⟩ := hp
      have HE0 := Lib.hid (show E = (xs, u) by rw [HEE.out, scanN_none hr, List.append_nil]; rfl)
      clear hr HEE
      have HA := Lib.hid (show (wa.alloc (.cells ZRd 124)).heap[wa.heap.size]? = some (.cells ZRd 124 (0, 0)) from heap_alloc_new _ _)
      go_upto_region 3 with (refine wpList_store_row rfl _ _ _ rfl wa.heap.size ZRd rfl rfl 124 ZRd HA.out KR.out.1 rfl KR.out.2 ?_)
      obtain ⟨wb, hw⟩ : ∃ w', w' = (wa.alloc (.cells ZRd 124)).setRow wa.heap.size ZRd := ⟨_, rfl⟩
      have tt : Turn (fun _ => False) W3 wb := by rw [hw]; exact ta.trans (((Turn.refl (fun _ => False) wa).alloc _).setRow _ _ (fun h => by omega)) (fun _ _ h => h)
      obtain ⟨Q, hQ⟩ : ∃ Q, Q = wa.heap.size := ⟨_, rfl⟩
      change Code.wp _ _ _ _ ((wa.alloc (.cells ZRd 124)).setRow wa.heap.size ZRd)
      rw [← hw, ← hQ]
      have TT := Lib.hid tt
      clear hw hQ HA ta tt
      go_wp2
      rw [Exit.noGoto_ret]
      refine bodyPost_ret (results_tmp2 rfl _ _ _) rfl ?_
      refine ⟨Av, cv, A2, c2, by rw [HE0.out]; rfl, ?_, AV.out.2, by rw [HE0.out]; exact AV.out.1, ?_, A2C.out.1, by rw [HE0.out]; exact A2C.out.2, HT.out.trans TT.out (fun _ _ h => h)⟩
      · rw [HE0.out]
        exact ⟨vs, own_turn TT.out HO.out (fun _ _ h => h), HV.out.turn TT.out (fun _ h => h.elim) (fun i _ h => h)⟩
      · rw [HE0.out, ← HL2.out]
        exact SL2.out.turn TT.out (fun _ h => h.elim) (fun _ _ h => h)
    | some x =>
      rw [hr] at hp
      obtain ⟨⟨Ab, cb, rfl, sb, hab, hcb⟩, ta⟩ := hp
      obtain ⟨rs1, rs2, rs3⟩ := readS_size hr
      have HR := Lib.hid hr
      obtain ⟨xt, hxt⟩ : ∃ y, y = x.t := ⟨_, rfl⟩
      obtain ⟨xn, hxn⟩ : ∃ y, y = x.n := ⟨_, rfl⟩
      obtain ⟨xz, hxz⟩ : ∃ y, y = x.size := ⟨_, rfl⟩
      obtain ⟨xb, hxb⟩ : ∃ y, y = x.b := ⟨_, rfl⟩
      rw [← hxb] at sb hcb
      rw [← hxz] at rs1 rs2 rs3
      rw [HN2.out] at rs2
      rw [← hxt, ← hxn, ← hxz, ← hxb]
      obtain ⟨lb, hlb⟩ : ∃ y, y = xb.length := ⟨_, rfl⟩
      rw [← hlb] at hcb ⊢
      obtain ⟨zz, hzz⟩ : ∃ y, y = 64 * xz := ⟨_, rfl⟩
      rw [← hzz] at rs1 rs2 ⊢
      have HZZ := Lib.hid hzz
      have HXT := Lib.hid hxt
      have HXN := Lib.hid hxn
      have HXZ := Lib.hid hxz
      have HXB := Lib.hid hxb
      have HLB := Lib.hid hlb
      have AB := Lib.hid (And.intro hab hcb)
      have hz1' : 64 ≤ zz := by omega
      obtain ⟨CR, hCR⟩ : ∃ CR : Array Value, CR = #[.int .i64 (xt : Int), .int .i64 (xn : Int), .slice Ab lb cb] := ⟨_, rfl⟩
      have KC := Lib.hid (show (Tryd.prog.info? 124).map (·.size) = some CR.size ∧ ZRd.size = CR.size ∧ CR.all (·.oneCell') = true by rw [hCR]; exact ⟨by kernel_rfl, rfl, by simp [Value.oneCell']⟩)
      rw [← hCR]
      have HCR := Lib.hid hCR
      clear hr hxt hxn hxz hxb hlb hCR hab hcb hzz rs1
      have HA := Lib.hid (show (wa.alloc (.cells ZRd 124)).heap[wa.heap.size]? = some (.cells ZRd 124 (0, 0)) from heap_alloc_new _ _)
      go_upto_region 3 with (refine wpList_store_row rfl _ _ _ rfl wa.heap.size CR rfl rfl 124 ZRd HA.out KC.out.1 KC.out.2.1 KC.out.2.2 ?_)
      obtain ⟨wb, hw⟩ : ∃ w', w' = (wa.alloc (.cells ZRd 124)).setRow wa.heap.size CR := ⟨_, rfl⟩
      have tt : Turn (fun _ => False) W3 wb := by rw [hw]; exact ta.trans (((Turn.refl (fun _ => False) wa).alloc _).setRow _ _ (fun h => by omega)) (fun _ _ h => h)
      obtain ⟨Q, hQ⟩ : ∃ Q, Q = wa.heap.size := ⟨_, rfl⟩
      have HQ := Lib.hid (show wb.heap[Q]? = some (.cells CR 124 (0, 0)) from by rw [hw, hQ]; exact setRow_heap _ _ _ _ _ _ HA.out)
      change Code.wp _ _ _ _ ((wa.alloc (.cells ZRd 124)).setRow wa.heap.size CR)
      rw [← hw, ← hQ]
      have QB : W3.heap.size ≤ Q := by rw [hQ]; exact ta.size
      have TT := Lib.hid tt
      have tz : Turn (fun _ => False) wa wb := by rw [hw]; exact ((Turn.refl (fun _ => False) wa).alloc _).setRow _ _ (fun h => by omega)
      have SB := Lib.hid (show SlN wb (fun k => k < W3.heap.size) Ab (xb.map bv) from sb.turn tz (fun _ h => h.elim) (fun _ _ h => h))
      clear hw hQ HA ta tt sb
      have k0 : wb.cell? ⟨Q, 0, none⟩ = some (.int .i64 (xt : Int)) := by rw [cell_of_row _ _ _ _ _ _ HQ.out, HCR.out]; rfl
      have k1 : wb.cell? ⟨Q, 1, none⟩ = some (.int .i64 (xn : Int)) := by rw [cell_of_row _ _ _ _ _ _ HQ.out, HCR.out]; rfl
      have k2 : wb.cell? ⟨Q, 2, none⟩ = some (.slice Ab lb cb) := by rw [cell_of_row _ _ _ _ _ _ HQ.out, HCR.out]; rfl
      by_cases hxt : xt = T
      rotate_left 1
      · have HE0 := Lib.hid (show E = (xs, u) by rw [HEE.out, scanN_other HR.out (.inl (by rw [← HXT.out]; exact hxt)), List.append_nil]; rfl)
        have dt : ((xt : Int) != (T : Int)) = true := by rw [bne_iff_ne]; omega
        clear hxt HEE
        go_wp2
        rw [Exit.noGoto_ret]
        refine bodyPost_ret (results_tmp2 rfl _ _ _) rfl ?_
        refine ⟨Av, cv, A2, c2, by rw [HE0.out]; rfl, ?_, AV.out.2, by rw [HE0.out]; exact AV.out.1, ?_, A2C.out.1, by rw [HE0.out]; exact A2C.out.2, HT.out.trans TT.out (fun _ _ h => h)⟩
        · rw [HE0.out]
          exact ⟨vs, own_turn TT.out HO.out (fun _ _ h => h), HV.out.turn TT.out (fun _ h => h.elim) (fun i _ h => h)⟩
        · rw [HE0.out, ← HL2.out]
          exact SL2.out.turn TT.out (fun _ h => h.elim) (fun _ _ h => h)
      have dt : ((xt : Int) != (T : Int)) = false := by rw [bne_eq_false_iff_eq]; omega
      by_cases hxn : xn = xs.length
      rotate_left 1
      · have HE0 := Lib.hid (show E = (xs, u) by rw [HEE.out, scanN_other HR.out (.inr (by rw [← HXN.out]; exact hxn)), List.append_nil]; rfl)
        have dn : ((xn : Int) != (xs.length : Int)) = true := by rw [bne_iff_ne]; omega
        clear hxt hxn HEE
        go_wp2
        rw [Exit.noGoto_ret]
        refine bodyPost_ret (results_tmp2 rfl _ _ _) rfl ?_
        refine ⟨Av, cv, A2, c2, by rw [HE0.out]; rfl, ?_, AV.out.2, by rw [HE0.out]; exact AV.out.1, ?_, A2C.out.1, by rw [HE0.out]; exact A2C.out.2, HT.out.trans TT.out (fun _ _ h => h)⟩
        · rw [HE0.out]
          exact ⟨vs, own_turn TT.out HO.out (fun _ _ h => h), HV.out.turn TT.out (fun _ h => h.elim) (fun i _ h => h)⟩
        · rw [HE0.out, ← HL2.out]
          exact SL2.out.turn TT.out (fun _ h => h.elim) (fun _ _ h => h)
      have dn : ((xn : Int) != (xs.length : Int)) = false := by rw [bne_eq_false_iff_eq]; omega
      have HNX := Lib.hid (show E = (xs ++ [xb] ++ (scanN (l.drop (64 * (u + xz))) T (xs ++ [xb]).length).1, u + xz + (scanN (l.drop (64 * (u + xz))) T (xs ++ [xb]).length).2) from by
        have h := scanN_some HR.out
        rw [← HXT.out, ← HXN.out, ← HXZ.out, ← HXB.out, hxt, hxn, HL2.out, List.drop_drop] at h
        rw [HEE.out, HL2.out, h]
        rw [List.length_append, List.length_singleton, show 64 * u + 64 * xz = 64 * (u + xz) by omega]
        simp [Nat.add_assoc])
      have HXS := Lib.hid hxn
      have hsb := TT.out.size
      have hO := own_turn TT.out HO.out (fun _ _ h => h)
      have O4 := Lib.hid hO
      have hx15 : xs.length ≤ 1000000 := by omega
      have hwsz : w.heap.size ≤ W3.heap.size := hsz
      clear hxt hxn HEE hO
      go_upto_region 6 with fail
      go_step
      iterate 12 go_step
      refine wpList_append_any_at (o := ⟨some 32, _, _, _, _, _⟩) rfl _ _ 31 rfl w.heap.size 36 i0 (.slice none 0 0) 24 Tryd.underlying31 hi hz0 hz1 hz2 rfl _ xs.length vs rfl (O4.out.alloc _) (some ⟨wb.heap.size, 0, none⟩) 1 1 [.slice Ab lb cb] rfl (fun h => by cases h) rfl ?_ (one_slice Ab lb cb) ?_ ?_ ?_ ?_
      · intro j u hu
        exact ⟨_, rfl, World.news_of_block (heap_alloc_new wb (.cells #[.slice Ab lb cb] 36)) j u hu⟩
      · unfold maxLen; omega
      · omega
      · simp; omega
      intro v9 w9 own9 gr9 at9
      have t9 : Turn (fun i => some i = (Value.slice Av xs.length cv).ownBlock) wb w9 := (((Turn.refl _ wb).alloc (.cells #[.slice Ab lb cb] 36)).grown gr9 (fun i hi e => e))
      have hv9 : TxtV w9 (fun k => k < w.heap.size ∨ v9.ownBlock = some k) (xs ++ [xb]) (vs ++ [.slice Ab lb cb]) := by
        have h := (HV.out.turn TT.out (fun _ h => h.elim) (fun _ _ h => h)).add (x := xb) (by rw [← HLB.out]; exact AB.out.2) AB.out.1 (SB.out.turn (Turn.refl (fun _ => False) _) (fun _ h => h.elim) (fun k _ h => by
          rcases h with h | h
          · show k < W3.heap.size; omega
          · exact (HO.out.lt k h).2))
        rw [← HLB.out] at h
        refine h.turn t9 (fun i e => .inr e.symm) (fun k hk h => ?_)
        rcases h with h | h
        · exact .inl h
        · rcases at9 with e | e
          · exact .inr (e.symm.trans h)
          · rw [e] at h
            injection h with h
            simp at h
            omega
      have HV9 := Lib.hid hv9
      have hT9 : Turn (fun _ => False) W3 w9 → True := fun _ => trivial
      have T9 := Lib.hid ((HT.out.trans TT.out (fun _ _ h => h)).trans t9 (fun i hi e => by have := (O4.out.lt i e.symm).1; omega))
      have HO9 := Lib.hid (show Srow w9 w.heap.size v9 (xs ++ [xb]).length (vs ++ [.slice Ab lb cb]) from by rw [List.length_append]; exact own9)
      have hxl : (xs ++ [xb]).length = xs.length + 1 := by rw [List.length_append]; rfl
      have hmz : 64 * (u + xz) ≤ n := by have := HZZ.out; omega
      have hzn : zz ≤ n - 64 * u := rs2
      obtain ⟨A3, hA3⟩ : ∃ x, x = cutA A2 c2 zz := ⟨_, rfl⟩
      obtain ⟨c3, hc3⟩ : ∃ x, x = c2 - zz := ⟨_, rfl⟩
      have SLI : ∀ w, (Instr.slice 36 (.slice A2 (n - 64 * u) c2) (some (.int .i64 (zz : Int))) none none).run Tryd.prog w = .ok (.slice A3 (n - 64 * (u + xz)) c3) w := fun w => by
        rw [run_slice_l (P := Tryd.prog) w 36 A2 (n - 64 * u) c2 (by kernel_rfl) .i64 (zz : Int) (by omega) (by omega)]
        rw [show Tryd.prog.elem 36 = 5 by kernel_rfl, size_u8]
        simp only [Result.andThen, sliced, hA3, hc3, cutA, Nat.mul_one, Int.toNat_natCast]
        rw [show n - 64 * u - zz = n - 64 * (u + xz) by have := HZZ.out; omega]
      have SL3 := Lib.hid (show SlN w9 (fun k => N k ∨ w.heap.size ≤ k) A3 ((l.drop (64 * (u + xz))).map bv) from by
        have h := sln_cut ((SL2.out.turn TT.out (N' := fun k => N k ∨ w.heap.size ≤ k) (fun _ h => h.elim) (fun _ _ h => h)).turn t9 (N' := fun k => N k ∨ w.heap.size ≤ k) (fun i e => .inr (O4.out.lt i e.symm).1) (fun _ _ h => h)) c2 zz (by rw [HN2.out]; exact A2C.out.2)
        rw [HL2.out, List.drop_drop, HZZ.out, show 64 * u + 64 * xz = 64 * (u + xz) by omega, ← HZZ.out, ← hA3] at h
        exact h)
      have A3C := Lib.hid (show (A3 = none → c3 = 0) ∧ n - 64 * (u + xz) ≤ c3 from ⟨by rw [hA3, hc3]; exact cut_none A2C.out.1, by rw [hc3]; have := A2C.out.2; have := HZZ.out; omega⟩)
      clear own9 gr9 at9 t9 k0 k1 k2 hv9 dt dn HO HV O4 SB TT HT hsb hT9 hA3 hc3 SL2
      go_wp2
      go_roundw
      case rel => exact ⟨xs ++ [xb], vs ++ [.slice Ab lb cb], u + xz, A3, c3, rfl, hmz, by omega, HO9.out, HV9.out, HNX.out, SL3.out, A3C.out.1, A3C.out.2, T9.out⟩
      case measure => simp [lenS13]; omega
set_option maxHeartbeats 4000000 in
theorem openO_any (w : World) (g n p m t : Nat) (d : Dr) (D : Nat → Prop) (h : LD w g n d D) (hoff : d.off = false) (hn : n ≤ 8192) (hp : p + m ≤ n) (ht : t ≤ mostS) (hW : d.W.length + m < 10000) :
    Calls Tryd.prog 53 #[.pointer (some ⟨g, 0, none⟩), .int .i64 (p : Int), .int .i64 (m : Int), .int .i64 (t : Int)] w fun r w' => ∃ D', LD w' g n (wipeR d (p + (scanN (cutD d p m) t 0).2) (m - (scanN (cutD d p m) t 0).2)).1 D' ∧ (∀ k, D' k → Dn D w w' k) ∧ Turn D w w' ∧ (((wipeR d (p + (scanN (cutD d p m) t 0).2) (m - (scanN (cutD d p m) t 0).2)).2 = 0 ∧ ∃ s A c E, r = .returned (.tuple #[.pointer (some ⟨s, 0, none⟩), .slice A (scanN (cutD d p m) t 0).1.length c, .int .i64 0]) ∧ Ats SBp w' g s n (wipeR d (p + (scanN (cutD d p m) t 0).2) (m - (scanN (cutD d p m) t 0).2)).1 ⟨p + (scanN (cutD d p m) t 0).2, p + m, t, (scanN (cutD d p m) t 0).1.length, false⟩ D' E ∧ (∃ vs, w'.ownsRow w.heap.size 36 1 (.slice A (scanN (cutD d p m) t 0).1.length c) (scanN (cutD d p m) t 0).1.length vs ∧ TxtV w' (fun k => k < w.heap.size ∨ D' k ∨ E k ∨ (Value.slice A (scanN (cutD d p m) t 0).1.length c).ownBlock = some k) (scanN (cutD d p m) t 0).1 vs ∧ ∀ k, (Value.slice A (scanN (cutD d p m) t 0).1.length c).ownBlock = some k → ¬ D' k ∧ ¬ E k) ∧ (A = none → c = 0) ∧ (scanN (cutD d p m) t 0).1.length ≤ c ∧ (∀ k, E k → w.heap.size ≤ k)) ∨ ((wipeR d (p + (scanN (cutD d p m) t 0).2) (m - (scanN (cutD d p m) t 0).2)).2 ≠ 0 ∧ r = .returned (.tuple #[.pointer none, .slice none 0 0, .int .i64 ((wipeR d (p + (scanN (cutD d p m) t 0).2) (m - (scanN (cutD d p m) t 0).2)).2 : Int)]))) := by
  have CK := check_any w g n d D p m t h hn (by omega)
  rw [scanE_on hp ht hoff] at CK
  have CK := Lib.hid CK
  have RD := Lib.hid (lread_st g n p m d D w h hoff hp hn)
  have hcl := cutD_len h.ok p m hp
  have hle := scanN_le t (cutD d p m).length (cutD d p m) 0 (Nat.le_refl _)
  have hsp := fun j hj => cutD_split h.ok p m j hp hj
  obtain ⟨l, hl⟩ : ∃ l, l = cutD d p m := ⟨_, rfl⟩
  obtain ⟨R, hR⟩ : ∃ R, R = scanN (cutD d p m) t 0 := ⟨_, rfl⟩
  rw [← hR] at hle ⊢
  rw [hcl] at hle
  have hu : R.2 ≤ m := by omega
  have hdrop : l.drop (64 * R.2) = cutD d (p + R.2) (m - R.2) := by
    have h1 := hsp R.2 hu
    have h2 := cutD_len h.ok p R.2 (by omega)
    rw [hl, h1, ← h2, List.drop_left]
  rw [← hl] at hcl RD
  rw [← hl] at hR
  have HCL := Lib.hid hcl
  have HR := Lib.hid hR
  have HDR := Lib.hid hdrop
  have HLT := Lib.hid h.lt
  have HL := Lib.hid h
  clear hsp hl hcl hR hdrop hle h
  obtain ⟨⟨W1_, er⟩, hWR⟩ : ∃ x, x = wipeR d (p + R.2) (m - R.2) := ⟨_, rfl⟩
  rw [← hWR]
  have HWR := Lib.hid hWR
  clear hWR
  go_enter Tryd.func53, Tryd.ntmps53
  go_wp2_with (go_at_call 71; refine stop ?_)
  unfold Stop
  refine CK.out.mono ?_
  rintro r w2 ⟨rfl, hw⟩
  rw [hw]
  clear hw w2 CK
  go_wp2_with (go_at_call 73; refine stop ?_)
  unfold Stop
  refine RD.out.mono ?_
  rintro r w1 ⟨A1, c1, rfl, o1, t1⟩
  have hsl := own_sln (N := D) o1 HLT.out
  obtain ⟨A1', c1', e1, -, -, k1, a1⟩ := own_sl o1
  injection e1 with e1 e2 e3
  subst e1 e3
  have SN := lscanO_any D A1 c1 l t w1 (glob_turn HL.out.glob t1) hsl a1 (by rw [HCL.out]; exact k1) (by rw [HCL.out]; omega)
  rw [HCL.out, ← HR.out] at SN
  have SN := Lib.hid SN
  have T1 := Lib.hid t1
  clear RD o1 t1 hsl k1 a1 e2
  go_wp2_with (go_at_call 74; refine stop ?_)
  unfold Stop
  refine SN.out.mono ?_
  rintro r w2 ⟨A2, c2, A3, c3, rfl, q2, a2, k2, s3, a3, k3, t2⟩
  have T2 := Lib.hid (T1.out.trans t2 (fun _ _ h => h))
  have S12 := Lib.hid t2.size
  obtain ⟨vs, q2o, q2t⟩ := q2
  have Q2O := Lib.hid (own_less q2o T1.out.size)
  have Q2OB := Lib.hid (show ∀ k, (Value.slice A2 R.1.length c2).ownBlock = some k → w1.heap.size ≤ k ∧ k < w2.heap.size from fun k e => q2o.lt k e)
  have Q2 := Lib.hid q2t
  have A2C := Lib.hid (And.intro a2 k2)
  have S3 := Lib.hid s3
  have A3C := Lib.hid (And.intro a3 k3)
  have SI := fun wx : World => sectorsIn_any A3 (64 * m - 64 * R.2) c3 (by omega) wx
  rw [show (64 * m - 64 * R.2) / 64 = m - R.2 by omega] at SI
  have SI := Lib.hid SI
  have hlen : R.1.length ≤ c2 := k2
  obtain ⟨u, hu'⟩ : ∃ u, u = R.2 := ⟨_, rfl⟩
  obtain ⟨nl, hnl⟩ : ∃ u, u = R.1.length := ⟨_, rfl⟩
  rw [← hu'] at SI hu ⊢
  rw [← hnl] at hlen ⊢
  have HU := Lib.hid hu'
  have HLE := Lib.hid hlen
  have HNL := Lib.hid hnl
  clear SN q2o q2t a2 k2 s3 a3 k3 t2 hu' hnl
  go_wp2_with (go_at_call 56; refine stop ?_)
  unfold Stop
  refine (SI.out w2).mono ?_
  rintro r w3 ⟨rfl, hw⟩
  rw [hw]
  clear hw w3
  go_wp2_with (go_at_call 56; refine stop ?_)
  unfold Stop
  refine (SI.out w2).mono ?_
  rintro r w3 ⟨rfl, hw⟩
  rw [hw]
  clear hw w3 SI
  have hv1 : IntKind.i64.wrap ((p : Int) + (m : Int)) = (p : Int) + (m : Int) := IntWalk.i64_in _ (by omega)
  have hv2 : (p : Int) + (m : Int) - ((m - u : Nat) : Int) = ((p + u : Nat) : Int) := by omega
  go_upto_region 6 with fail
  obtain ⟨w3, hw3⟩ : ∃ w3, w3 = w2.alloc (.cells #[.pointer (some ⟨g, 0, none⟩), .int .i64 (t : Int), .int .i64 (nl : Int), .int .i64 ((p : Int) + (u : Int)), .int .i64 ((m - u : Nat) : Int)] 81) := ⟨_, rfl⟩
  obtain ⟨s, hs⟩ : ∃ s, s = w2.heap.size := ⟨_, rfl⟩
  change Code.wp _ _ _ _ (w2.alloc (.cells #[.pointer (some ⟨g, 0, none⟩), .int .i64 (t : Int), .int .i64 (nl : Int), .int .i64 ((p : Int) + (u : Int)), .int .i64 ((m - u : Nat) : Int)] 81))
  have t3 : Turn (fun _ => False) w2 w3 := by rw [hw3]; exact (Turn.refl _ _).alloc _
  have hpu : (p : Int) + (u : Int) = ((p + u : Nat) : Int) := by omega
  have B3 := Lib.hid (show SBox w3 s (.pointer (some ⟨g, 0, none⟩)) t nl ((p + u : Nat) : Int) ((m - u : Nat) : Int) by rw [← hpu, hw3, hs]; exact heap_alloc_new _ _)
  have HSW := Lib.hid (show w.heap.size ≤ s by rw [hs]; exact T2.out.size)
  have HS2 := Lib.hid (show 2 ≤ s by have := HL.out.glob.1; have := HSW.out; omega)
  have HSD := Lib.hid (show ¬ D s from fun hd => by have := HLT.out s hd; have := HSW.out; omega)
  have T3 := Lib.hid (T2.out.trans t3 (fun _ _ h => h))
  have Q3 := Lib.hid (show TxtV w3 (fun k => (k < w1.heap.size ∨ (Value.slice A2 R.1.length c2).ownBlock = some k) ∨ k = s) R.1 vs from Q2.out.turn t3 (fun _ h => h.elim) (fun k hk h => h.elim id (fun e => by omega)))
  have Q3O := Lib.hid (own_turn t3 Q2O.out (fun _ _ h => h))
  have HSO := Lib.hid (show ∀ k, (Value.slice A2 R.1.length c2).ownBlock = some k → k < s from fun k e => by have := (Q2OB.out k e).2; omega)
  have WI := wipeG_any w3 g s n (p + u) (m - u) t nl d D A3 c3 (HL.out.quiet T3.out) hn (by omega) B3.out HSD.out (by rw [HU.out, ← HDR.out]; exact (S3.out.turn (N' := D) t3 (fun _ h => h.elim) (fun k hk h => .inl h))) A3C.out.1 (by rw [HU.out]; have := A3C.out.2; omega) (by omega)
  rw [show 64 * (m - u) = 64 * m - 64 * u by omega] at WI
  have WI := Lib.hid WI
  have hsz3 := Lib.hid (show w3.heap.size = s + 1 by rw [hw3, hs]; simp)
  rw [← hw3, ← hs]
  clear hw3 hs t3 hpu hv1 hv2 S3 Q2 Q2O
  go_wp2_with (go_at_call 75; refine stop ?_)
  unfold Stop
  refine WI.out.mono ?_
  rintro r w4 ⟨D4, rfl, l4, hD4, t4⟩
  have B4 := Lib.hid (B3.out.turn t4 HSD.out)
  have L4 := Lib.hid l4
  have HD4 := Lib.hid hD4
  have T4 := Lib.hid t4
  clear WI l4 hD4 t4
  have hwu : wipeR d (p + u) (m - u) = (W1_, er) := by rw [HU.out]; exact HWR.out.symm
  rw [hwu] at L4 ⊢
  clear hwu
  have hDn := Lib.hid (show ∀ k, D4 k → Dn D w w4 k from fun k hk => (HD4.out k hk).elim .inl (fun h => .inr ⟨by have := hsz3.out; have := HSW.out; have := h.1; omega, h.2⟩))
  have TT := Lib.hid ((T3.out.mono (S := D) (fun _ _ h => h.elim)).trans T4.out (fun _ _ h => h))
  have Q4 := Lib.hid (show TxtV w4 (fun k => k < w.heap.size ∨ D4 k ∨ k = s ∨ (Value.slice A2 R.1.length c2).ownBlock = some k) R.1 vs from Q3.out.turn T4.out (fun k hk => .inl (.inl (Nat.lt_of_lt_of_le (HLT.out k hk) T1.out.size))) (fun k hk h => by
    rcases h with h | h | h | h
    · exact .inl (.inl (Nat.lt_of_lt_of_le h T1.out.size))
    · exact (HD4.out k h).elim (fun h => .inl (.inl (Nat.lt_of_lt_of_le (HLT.out k h) T1.out.size))) (fun h => by have := h.1; omega)
    · exact .inr h
    · exact .inl (.inr h)))
  have Q4O := Lib.hid (own_turn T4.out Q3O.out (fun k e hd => by have := HLT.out k hd; have := (Q2OB.out k e).1; have := T1.out.size; omega))
  have Q4D := Lib.hid (show ∀ k, (Value.slice A2 R.1.length c2).ownBlock = some k → ¬ D4 k ∧ ¬ k = s from fun k e => ⟨fun hd => (HD4.out k hd).elim (fun hd => by have := HLT.out k hd; have := (Q2OB.out k e).1; have := T1.out.size; omega) (fun h => by have := h.1; have := HSO.out k e; have := hsz3.out; omega), by have := HSO.out k e; omega⟩)
  by_cases her0 : er = 0
  · have d0 : ((er : Int) != 0) = false := by rw [bne_eq_false_iff_eq]; omega
    have HE0 := Lib.hid her0
    clear her0
    go_wp2
    refine bodyPost_ret (results_tmp3 rfl _ _ _) rfl ?_
    refine ⟨D4, L4.out, hDn.out, TT.out, .inl ⟨HE0.out, s, A2, c2, fun k => k = s, by rw [← HNL.out]; rfl, ⟨L4.out, ⟨HS2.out, fun k => Iff.rfl, _, _, _, _, _, B4.out, fun e => by (cases e), fun _ => ⟨rfl, rfl, by rw [← HNL.out], by rw [← HU.out], ?_⟩⟩, fun k hk hd => ?_, fun k hk => ?_⟩, ⟨vs, Q4O.out, Q4.out, Q4D.out⟩, A2C.out.1, (by first | exact HLE.out | exact A2C.out.2), fun k hk => ?_⟩⟩
    · show ((m - u : Nat) : Int) = ((p + m - (p + R.2) : Nat) : Int); rw [← HU.out]; omega
    · have e : k = s := hk
      subst e
      exact (HD4.out k hd).elim HSD.out (fun h => by have := h.1; have := hsz3.out; omega)
    · have e : k = s := hk
      subst e
      exact B4.out.lt
    · have e : k = s := hk
      rw [e]; exact HSW.out
  · have d0 : ((er : Int) != 0) = true := by rw [bne_iff_ne]; omega
    have HE0 := Lib.hid her0
    clear her0
    go_wp2
    refine bodyPost_ret (results_tmp3 rfl _ _ _) rfl ?_
    exact ⟨D4, L4.out, hDn.out, TT.out, .inr ⟨HE0.out, rfl⟩⟩
end
section
set_option linter.unusedVariables false
set_option linter.unusedSimpArgs false
open Go.RowKit
set_option maxRecDepth 100000
def secB (t n m : Nat) : Nat := (12 + ((numB t).length + ((numB n).length + (numB m).length)) + m + 63) / 64
/-- Do texts fit, put one behind the other from the i-th number on? -/
def fitsB (t : Nat) : Nat → Nat → List (List B8) → Bool
  | _, _, [] => true
  | i, left, b :: bs => if 1024 < secB t i b.length ∨ left < secB t i b.length then false else fitsB t (i + 1) (left - secB t i b.length) bs
theorem fitsB_at {t i left : Nat} {L : List (List B8)} {k : Nat} {b : List B8} (h : L[k]? = some b) : fitsB t (i + k) left (L.drop k) = if 1024 < secB t (i + k) b.length ∨ left < secB t (i + k) b.length then false else fitsB t (i + (k + 1)) (left - secB t (i + k) b.length) (L.drop (k + 1)) := by
  obtain ⟨hk, e⟩ := List.getElem?_eq_some_iff.1 h
  rw [List.drop_eq_getElem_cons hk, e]
  rfl
set_option maxHeartbeats 4000000 in
theorem lfits_any (w : World) (s t nn l : Nat) (P : Value) (p : Int) (A : Option Addr) (c : Nat) (L : List (List B8)) (hb : SBox w s P t nn p l) (hL : LstN w A L) (ht : t ≤ 1099511627776) (hn : nn + L.length ≤ 1099511627776) (hl : l ≤ 1000000) (hbs : ∀ x ∈ L, x.length ≤ 900000) :
    Calls Tryd.prog 19 #[.pointer (some ⟨s, 0, none⟩), .slice A L.length c] w fun r w' => r = .returned (.bool (fitsB t nn l L)) ∧ Turn (fun _ => False) w w' := by
  have BX := Lib.hid hb
  have HL := Lib.hid hL
  have HBS := Lib.hid hbs
  obtain ⟨c0, c1, c2, c3, c4⟩ := hb.cells
  obtain ⟨F_, hF⟩ : ∃ f, f = fitsB t nn l L := ⟨_, rfl⟩
  rw [← hF]
  have HF := Lib.hid hF
  clear hb hL hbs hF
  go_enter Tryd.func19, Tryd.ntmps19
  go_wp2
  clear c0 c1 c2 c3 c4
  go_loopw [5, 17] (fun lv iv wr => ∃ (k left : Nat), k ≤ L.length ∧ left ≤ 1000000 ∧ lv = .int .i64 (left : Int) ∧ iv = .int .i64 (k : Int) ∧ F_ = fitsB t (nn + k) left (L.drop k) ∧ Turn (fun _ => False) w wr) (fun _ iv _ => L.length - (intOf iv).toNat)
  case atStart => exact ⟨0, l, by omega, hl, rfl, rfl, by rw [HF.out]; rfl, Turn.refl _ _⟩
  case round =>
    obtain ⟨k, left, hk, hlf, rfl, rfl, he, htt⟩ := hrel
    have HE := Lib.hid he
    have TT := Lib.hid htt
    have BXr := Lib.hid (BX.out.turn htt (fun h => h))
    have HLr := HL.out.below (turn_stp' htt)
    clear he htt
    by_cases hlt : k < L.length
    · obtain ⟨ad, Ai, ci, rfl, hcl, hci, hai, hbt⟩ := HLr k L[k] (List.getElem?_eq_getElem hlt)
      have hbl := HBS.out L[k] (List.getElem_mem hlt)
      have HS := fitsB_at (t := t) (i := nn) (left := left) (List.getElem?_eq_getElem hlt)
      obtain ⟨b, hbd⟩ : ∃ b, b = L[k] := ⟨_, rfl⟩
      rw [← hbd] at hcl hci hbl HS
      obtain ⟨q, hq⟩ : ∃ q, q = nn + k := ⟨_, rfl⟩
      rw [← hq] at HS
      have hqi : (nn : Int) + (k : Int) = (q : Int) := by omega
      have hwq : IntKind.i64.wrap ((nn : Int) + (k : Int)) = (q : Int) := by rw [IntWalk.i64_in _ (by omega)]; omega
      have hwq2 : IntKind.i64.wrap (q : Int) = (q : Int) := IntWalk.i64_in _ (by omega)
      obtain ⟨m, hm⟩ : ∃ m, m = b.length := ⟨_, rfl⟩
      rw [← hm] at hcl hci hbl HS
      have RS := sectorsOf_any t q m ht (by omega) (by omega) wr.drew
      obtain ⟨V, hV⟩ : ∃ V, V = secB t q m := ⟨_, rfl⟩
      have hVb : V ≤ 2000000 := by
        rw [hV, secB]
        have a1 := numB_small ht
        have a2 := numB_small (n := q) (by omega)
        have a3 := numB_small (n := m) (by omega)
        omega
      rw [show (12 + ((numB t).length + ((numB q).length + (numB m).length)) + m + 63) / 64 = V from hV.symm] at RS
      rw [← hV] at HS
      have HS := Lib.hid (show F_ = if 1024 < V ∨ left < V then false else fitsB t (nn + (k + 1)) (left - V) (L.drop (k + 1)) by rw [HE.out, ← hq]; exact HS)
      have RS := Lib.hid RS
      obtain ⟨c0, c1, c2, c3, c4⟩ := BXr.out.cells
      have td : Turn (fun _ => False) wr wr.drew := (Turn.refl _ _).drew
      clear hbt hbd hq hm hV HLr
      go_upto_region 7 with fail
      go_region_held3 (fun w' => w'.cell? ⟨s, 1, none⟩ = some (.int .i64 (t : Int)) ∧ w'.cell? ⟨s, 2, none⟩ = some (.int .i64 (nn : Int)))
        (first | exact ⟨c1, c2⟩ | exact ⟨k1, k2⟩)
        (first
          | (go_at_call 45; refine RS.out.mono ?_; clear RS; rintro r w3 ⟨rfl, t3⟩; have T3 := Lib.hid t3; have k1 := t3.cell (show wr.drew.cell? _ = _ from c1) (fun h => h); have k2 := t3.cell (show wr.drew.cell? _ = _ from c2) (fun h => h); clear t3))
      have T4 := Lib.hid ((TT.out.trans td (fun _ _ h => h)).trans T3.out (fun _ _ h => h))
      clear c0 c1 c2 c3 c4 k1 k2 hcl
      by_cases h1 : 1024 < V
      · have d1 : decide ((1024 : Int) < (V : Int)) = true := decide_eq_true (by omega)
        have d1' : decide (1024 < V) = true := decide_eq_true h1
        have HE2 := Lib.hid (HS.out.trans (if_pos (.inl h1)))
        clear h1
        go_wp2
        go_ret
        exact ⟨by rw [HE2.out]; rfl, T4.out⟩
      have d1 : decide ((1024 : Int) < (V : Int)) = false := decide_eq_false (by omega)
      have d1' : decide (1024 < V) = false := decide_eq_false h1
      by_cases h2 : left < V
      · have d2 : decide ((left : Int) < (V : Int)) = true := decide_eq_true (by omega)
        have d2' : decide (left < V) = true := decide_eq_true h2
        have HE2 := Lib.hid (HS.out.trans (if_pos (.inr h2)))
        clear h2
        go_wp2
        go_ret
        exact ⟨by rw [HE2.out]; rfl, T4.out⟩
      have d2 : decide ((left : Int) < (V : Int)) = false := decide_eq_false (by omega)
      have d2' : decide (left < V) = false := decide_eq_false h2
      have HE2 := Lib.hid (HS.out.trans (if_neg (fun h => h.elim h1 h2)))
      have hw3 : IntKind.i64.wrap ((left : Int) - (V : Int)) = ((left - V : Nat) : Int) := by rw [IntWalk.i64_in _ (by omega)]; omega
      go_wp2
      go_roundw
      case rel => exact ⟨k + 1, left - V, by omega, by omega, by go_num, by go_num, HE2.out, T4.out⟩
      case measure => simp [intOf]; omega
    · have hkl : k = L.length := by omega
      have HE2 := Lib.hid (show F_ = true by rw [HE.out, hkl, List.drop_length]; rfl)
      clear HLr
      go_wp2
      go_ret
      exact ⟨by rw [HE2.out]; rfl, TT.out⟩
end
section
set_option linter.unusedVariables false
set_option linter.unusedSimpArgs false
open Go.RowKit
set_option maxRecDepth 100000
/-- A chest as a value: its list's cells lie outside N. -/
def ChV (N : Nat → Prop) (t half : Int) (L : List (List B8)) (w : World) (v : Value) (w' : World) : Prop := ∃ A c, v = cstV t half A L.length c ∧ LstQ w' (fun i => N i ∧ i < w.heap.size) A L ∧ (A = none → c = 0) ∧ L.length ≤ c ∧ Turn (fun _ => False) w w'
def ChVR (N : Nat → Prop) (t half : Int) (L : List (List B8)) (w : World) (r : Ending) (w' : World) : Prop := ∃ v, r = .returned v ∧ ChV N t half L w v w'
end
end Go.Proofs.YtajdcekkmikbcaaDoor
