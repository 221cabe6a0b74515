/- The contract of 'readOuts'. -/
import Derived.Test.YteaoaabjdgdcmaaTxP
import Derived.OwnWalk
set_option linter.unusedVariables false
set_option linter.unusedSimpArgs false
namespace Go.Proofs.Yteaoaabjdgdcmaa
open Go.RowKit
/-- What reading outputs comes to. -/
def RousPost (e E : Nat) (N : Nat → Prop) (l : List B8) (w : World) (r : Ending) (w' : World) : Prop :=
  (rousE l = 0 ∧ ∃ G, r = .returned (.slice (some ⟨G, 0, none⟩) (numV l) (numV l)) ∧ OusN w' (fun i => i < w.heap.size) (some ⟨G, 0, none⟩) (rousV l) ∧ Eye0 w' e E N (rousR l) ∧ Turn (fun i => i = e) w w') ∨
  (rousE l ≠ 0 ∧ r = pan E ∧ EyeX w' e E (rousE l) ∧ Turn (fun i => i = e ∨ i = E) w w')
set_option maxRecDepth 100000 in
theorem rous_no {e E G : Nat} {N : Nat → Prop} {l : List B8} {w w2 wj w' : World} {x : Nat} (hX : rousE l = x) (hx : x ≠ 0) (he : EyeX w' e E x) (t2 : Turn (fun i => i = e) w w2) (t3 : Turn (fun i => i = e ∨ i = G) w2 wj) (t4 : Turn (fun i => i = e ∨ i = E) wj w') (hG : w.heap.size ≤ G) : RousPost e E N l w (pan E) w' := by
  refine Or.inr ⟨by rw [hX]; exact hx, rfl, by rw [hX]; exact he, ?_⟩
  exact ((t2.mono (fun _ _ h => .inl h)).trans t3 (fun i hi h => by rcases h with h | h; exact .inl h; omega)).trans t4 (fun _ _ h => h)
/-- The first k outputs of a row. -/
def RowOus (w : World) (G : Nat) (l : List Pout) : Prop := ∀ i p, l[i]? = some p → p.ok ∧ w.rangeAt G (i * 33) p.cells
set_option maxRecDepth 100000 in
set_option maxHeartbeats 4000000 in
theorem readOuts_any (e E : Nat) (N : Nat → Prop) (l : List B8) (w : World) (h : Eye0 w e E N l) (hN : ∀ i, w.heap.size ≤ i → N i) :
    Calls Try.prog 13 #[.pointer (some ⟨e, 0, none⟩)] w (RousPost e E N l w) := by
  obtain ⟨i0, hi, hz0, hz1, hz2⟩ := info_parts info_out
  obtain ⟨hle, hlE, hne, hNe, hNE, hll⟩ := h.lt
  by_cases hx : eNum 16 l = 0
  · have T0 := Lib.hid (num_yes e E N 16 l w h hx)
    have hnv : numV l ≤ 16 := by unfold eNum at hx; split at hx <;> (try split at hx) <;> omega
    have HX := Lib.hid (show rousE l = ousE (numV l) (numR l) by unfold rousE; rw [if_neg (by omega)])
    have HV := Lib.hid (show rousV l = ousV (numV l) (numR l) from rfl)
    have HR := Lib.hid (show rousR l = ousR (numV l) (numR l) from rfl)
    have HN := Lib.hid hN
    obtain ⟨n, hn⟩ : ∃ n, n = numV l := ⟨_, rfl⟩
    rw [← hn] at T0 HX HV HR hnv
    have HNN := Lib.hid hn
    clear h hN hx hn
    generalize numR l = l1 at *
    go_enter Try.func13, Try.ntmps13
    go_wp2_with fail
    refine T0.out.mono ?_
    rintro r w1 ⟨rfl, he1, ht1⟩
    have HE1 := Lib.hid he1
    have HT1 := Lib.hid ht1
    clear he1 ht1 T0
    go_wp2_with (at_make; refine wpList_make_full _ rfl _ _ 25 rfl w1.heap.size 43 i0 (.agg ZOut) 33 Try.underlying25 hi hz0 hz1 _ _ _ _ n rfl rfl rfl rfl ?b2 ?b3 ?b4 ?_)
    case b2 => rw [hz2]; omega
    case b3 => unfold maxLen; omega
    case b4 => simp
    intro w2 hown2 hgrow2
    have HTH := Lib.hid (own_there hown2)
    have ht2 : Turn (fun _ => False) w1 w2 := (Turn.refl _ w1).grown hgrow2 (fun _ _ e => by cases e)
    have HGlt := Lib.hid (show w1.heap.size < w2.heap.size from by
      rcases hown2.2 with ⟨e, -⟩ | ⟨g', cap, cur, e, hB, hg, -⟩
      · cases e
      · injection e with e1 e2 e3
        injection e1 with e1
        injection e1 with e1
        rw [e1]; exact lt_of_block hg)
    have HE2 := Lib.hid (HE1.out.turn ht2 (fun h => h) (fun h => h) (fun _ h => h.elim))
    have HT2 := Lib.hid (HT1.out.trans ht2 (fun _ _ h => h.elim))
    have HS1 := Lib.hid HT1.out.size
    clear hown2 hgrow2 ht2 HE1 HT1
    generalize w1.heap.size = G at *
    go_wp2
    go_loopw [10] (fun i wr => ∃ k : Nat, k ≤ n ∧ i = .int .i64 k ∧ ousE k l1 = 0 ∧ wr.there G 0 (n * 33) ∧ RowOus wr G (ousV k l1) ∧ Eye0 wr e E N (ousR k l1) ∧ Turn (fun i => i = e ∨ i = G) w2 wr) (fun i _ => n - (intOf i).toNat)
    case atStart => exact ⟨0, Nat.zero_le _, rfl, rfl, HTH.out, (fun i p hi => by simp [ousV] at hi), HE2.out, Turn.refl _ _⟩
    case round =>
      clear HTH HE2
      obtain ⟨k, hk, rfl, h0, hth, hrow, he, ht⟩ := hrel
      by_cases hlt : k < n
      · have hkn : k * 33 + 33 ≤ n * 33 := by omega
        obtain ⟨lk, hlk⟩ : ∃ lk, lk = ousR k l1 := ⟨_, rfl⟩
        have HVS := Lib.hid (show ousV (k + 1) l1 = ousV k l1 ++ [ouV lk] by rw [hlk]; rfl)
        have HRS := Lib.hid (show ousR (k + 1) l1 = ouR lk by rw [hlk]; rfl)
        have HERR := Lib.hid (fun (h1 : ouE lk ≠ 0) => show rousE l = ouE lk by rw [HX.out, hlk] at *; exact ousE_here h0 (by rw [← hlk]; exact h1) hlt)
        have HNXT := Lib.hid (fun (h1 : ouE lk = 0) => ousE_next h0 (by rw [← hlk]; exact h1))
        rw [← hlk] at he
        have hlkl := he.lt.2.2.2.2.2
        have HRW := Lib.hid hrow
        have HTR := Lib.hid ht
        have HTH := Lib.hid hth
        have HNG := Lib.hid (show N G from HN.out G HS1.out)
        have hGe : G ≠ e ∧ G ≠ E := by have := HS1.out; omega
        have hGw : G < wr.heap.size := by have := ht.size; have := HGlt.out; omega
        have HKT := Lib.hid (ousV_len k l1)
        clear hrow ht h0 hlk hth
        by_cases h32 : lk.length < 32
        · have T := Lib.hid (id_no e E N lk wr he h32)
          have HE2 := Lib.hid (show ouE lk = 2 by unfold ouE; rw [if_pos h32])
          clear he h32
          go_wp2_with (go_at_call 31; refine T.out.mono ?_; rintro r w3 ⟨rfl, he3, ht3⟩; dsimp only [pan]; have HE3 := Lib.hid he3; have HT3 := Lib.hid ht3; clear he3 ht3)
          have hz := HERR.out (by rw [HE2.out]; decide)
          exact ⟨rfl, rous_no (hz.trans HE2.out) (by decide) HE3.out HT2.out HTR.out HT3.out HS1.out⟩
        · have T := Lib.hid (id_yes e E N lk wr he (by omega))
          obtain ⟨D, hD⟩ : ∃ D, D = ((lk.take 32).map bv).toArray := ⟨_, rfl⟩
          have hd32 : (lk.take 32).length = 32 := by rw [List.length_take]; omega
          have sD : D.size = 32 := by rw [hD]; simp; omega
          rw [← hD] at T
          have H1 := Lib.hid (show (Try.prog.info? 37).map (·.size) = some D.size by rw [sD]; kernel_rfl)
          have H3 := Lib.hid (show D.all (·.oneCell') = true by rw [hD]; exact all_oneCell_toArray (bv_one _))
          have HD := Lib.hid hD
          have HSD := Lib.hid sD
          have HD32 := Lib.hid hd32
          clear he hD sD hd32
          go_wp2_with fail
          refine T.out.mono ?_
          rintro r w3 ⟨rfl, he3, ht3⟩
          have hth3 := there_turn HTH.out ht3 hGe.1
          have HTS := Lib.hid (show w3.there G (k * 33) D.size by rw [HSD.out]; exact there_sub hth3 _ _ (by omega))
          have HTH3 := Lib.hid hth3
          have HE3 := Lib.hid he3
          have HT3 := Lib.hid ht3
          clear he3 ht3 hth3 T
          go_wp2_with (refine wpList_store_mid rfl _ _ _ rfl G (k * 33) D rfl rfl HTS.out H1.out H3.out ?_; refine stop ?_)
          unfold Stop
          obtain ⟨w4, hw4⟩ : ∃ w4, w4 = w3.setCells G (k * 33) D.toList := ⟨_, rfl⟩
          have hr4 : w4.rangeAt G (k * 33) ((lk.take 32).map bv) := by
            rw [hw4]
            have h := World.rangeAt_setCells_same w3 G (k * 33) D.toList (by simpa using HTS.out)
            rw [HD.out] at h ⊢
            simpa using h
          have HR4 := Lib.hid hr4
          have HTH4 := Lib.hid (show w4.there G 0 (n * 33) by rw [hw4]; exact World.there_setCells HTH3.out _ _ _)
          have HK4 := Lib.hid (show KeepLo wr w4 G (k * 33) by rw [hw4]; exact (KeepLo.turn HT3.out hGe.1).trans (KeepLo.setCells _ _ _ _))
          have ht4 : Turn (fun i => i = G) w3 w4 := by rw [hw4]; exact Turn.setCells (S := fun i => i = G) G (fun _ => rfl) _ _ _ (Turn.refl _ _)
          have HT4 := Lib.hid (show Turn (fun i => i = e ∨ i = G) wr w4 from (HT3.out.mono (fun _ _ h => .inl h)).trans ht4 (fun _ _ h => .inr h))
          have HE4 := Lib.hid (HE3.out.turn ht4 (fun h => hGe.1 h.symm) (fun h => hGe.2 h.symm) (fun i h => by rw [h]; exact HNG.out))
          have HZ4 := Lib.hid (Nat.le_trans HT3.out.size ht4.size)
          rw [← hw4]
          clear hw4 hr4 ht4 HTS HTH3 HE3 HTH
          obtain ⟨l2, hl2⟩ : ∃ l2, l2 = lk.drop 32 := ⟨_, rfl⟩
          rw [← hl2] at HE4
          have HL2 := Lib.hid hl2
          clear hl2
          by_cases htop : eNum topN l2 = 0
          · have T := Lib.hid (num_yes e E N topN l2 w4 HE4.out htop)
            have hy64 : numV l2 < 18446744073709551616 := numV_lt l2 (by unfold eNum at htop; split at htop <;> omega)
            have HHT := Lib.hid htop
            obtain ⟨y, hy⟩ : ∃ y, y = numV l2 := ⟨_, rfl⟩
            rw [← hy] at T hy64
            have HYY := Lib.hid hy
            clear htop hy
            go_wp2_with fail
            refine T.out.mono ?_
            rintro r w5 ⟨rfl, he5, ht5⟩
            have hth5 := there_turn HTH4.out ht5 hGe.1
            obtain ⟨v5, c5, z5⟩ := there_cell hth5 (k * 33 + 32) (by omega)
            have HC5 := Lib.hid c5
            have HTH5 := Lib.hid hth5
            have HE5 := Lib.hid he5
            have HT5 := Lib.hid ht5
            clear he5 ht5 hth5 T
            go_upto_region 7 with fail
            obtain ⟨w6, hw6⟩ : ∃ w6, w6 = w5.setCell ⟨G, k * 33 + 32, none⟩ (.int .u64 (y : Int)) := ⟨_, rfl⟩
            have ht6 : Turn (fun i => i = G) w5 w6 := by rw [hw6]; exact (Turn.refl _ _).setCell _ _ (fun _ => rfl)
            have HTH6 := Lib.hid (show w6.there G 0 (n * 33) by rw [hw6]; exact World.there_setCells HTH5.out G (k * 33 + 32) [.int .u64 (y : Int)])
            have HK6 := Lib.hid (show KeepLo w4 w6 G (k * 33 + 32) by rw [hw6]; exact (KeepLo.turn HT5.out hGe.1).trans (KeepLo.setCell _ _ _ _))
            have HC6 := Lib.hid (show w6.cell? ⟨G, k * 33 + 32, none⟩ = some (.int .u64 (y : Int)) by rw [hw6]; exact cell_set HC5.out)
            have HT6 := Lib.hid (show Turn (fun i => i = e ∨ i = G) wr w6 from (HT4.out.trans HT5.out (fun _ _ h => .inl h)).trans ht6 (fun _ _ h => .inr h))
            have HE6 := Lib.hid (HE5.out.turn ht6 (fun h => hGe.1 h.symm) (fun h => hGe.2 h.symm) (fun i h => by rw [h]; exact HNG.out))
            rw [← hw6]
            clear hw6 ht6 HTH5 HE5 HTH4 HE4 c5 z5 HC5
            have HIN := Lib.hid (show ouE lk = 0 by unfold ouE; rw [if_neg h32, ← HL2.out, HHT.out])
            have HIV := Lib.hid (show ouV lk = ⟨lk.take 32, y⟩ by unfold ouV; rw [← HL2.out, ← HYY.out])
            have HIR := Lib.hid (show ouR lk = numR l2 by unfold ouR; rw [← HL2.out])
            go_wp2
            go_roundw
            case rel =>
              refine ⟨k + 1, by omega, by go_num, HNXT.out HIN.out, HTH6.out, ?_, by rw [HRS.out, HIR.out]; exact HE6.out, HTR.out.trans HT6.out (fun _ _ h => h)⟩
              rw [HVS.out]
              intro i p hi
              by_cases hik : i < k
              · rw [List.getElem?_append_left (by rw [HKT.out]; exact hik)] at hi
                obtain ⟨hok, hr⟩ := HRW.out i p hi
                have hl := p.len hok.d
                exact ⟨hok, (HK4.out.trans (HK6.out.less (by omega))).range hr (by omega)⟩
              · obtain rfl : i = k := by have := (List.getElem?_eq_some_iff.1 hi).1; simp [HKT.out] at this; omega
                rw [List.getElem?_append_right (by rw [HKT.out]; exact Nat.le_refl _), HKT.out, Nat.sub_self] at hi
                simp only [List.getElem?_cons_zero, Option.some.injEq] at hi
                rw [← hi, HIV.out]
                refine ⟨⟨HD32.out, hy64⟩, ?_⟩
                have r0 := HK6.out.range HR4.out (by rw [List.length_map, HD32.out]; exact Nat.le_refl _)
                unfold Pout.cells
                refine range_app r0 ?_
                rw [List.length_map, HD32.out]
                exact range_one HC6.out
            case measure => simp [intOf]; omega
          · have T := Lib.hid (num_no e E N topN l2 w4 HE4.out htop)
            have HE2 := Lib.hid (show ouE lk = eNum topN l2 by unfold ouE; rw [if_neg h32, ← HL2.out])
            have HHT := Lib.hid htop
            clear htop
            go_wp2_with (go_at_call 14; refine T.out.mono ?_; rintro r w7 ⟨rfl, he7, ht7⟩; dsimp only [pan]; have HE7 := Lib.hid he7; have HT7 := Lib.hid ht7; clear he7 ht7)
            have hz := HERR.out (by rw [HE2.out]; exact HHT.out)
            exact ⟨rfl, rous_no (hz.trans HE2.out) HHT.out HE7.out HT2.out (HTR.out.trans HT4.out (fun _ _ h => h)) HT7.out HS1.out⟩
      · obtain rfl : k = n := by omega
        have H0 := Lib.hid h0
        have HRW := Lib.hid hrow
        have HE := Lib.hid he
        have HT := Lib.hid ht
        clear h0 hrow he ht hth
        go_wp2
        go_ret
        refine Or.inl ⟨by rw [HX.out, H0.out], G, by rw [← HNN.out]; rfl, ?_, by rw [HR.out]; exact HE.out, HT2.out.trans HT.out (fun i hi h => ?_)⟩
        · rw [HV.out]
          intro i p hi
          obtain ⟨hok, hr⟩ := HRW.out i p hi
          exact ⟨hok, G, 0, rfl, by have := HS1.out; omega, by rw [Nat.zero_add]; exact hr⟩
        · have := HS1.out
          omega
  · have T0 := Lib.hid (num_no e E N 16 l w h hx)
    have HX := Lib.hid (show rousE l = eNum 16 l by unfold rousE; rw [if_pos hx])
    have HNZ := Lib.hid hx
    clear h hN hx
    go_enter Try.func13, Try.ntmps13
    go_wp2_with (go_at_call 14; refine T0.out.mono ?_; rintro r w1 ⟨rfl, he1, ht1⟩; dsimp only [pan]; have HE1 := Lib.hid he1; have HT1 := Lib.hid ht1; clear he1 ht1)
    exact ⟨rfl, Or.inr ⟨by rw [HX.out]; exact HNZ.out, rfl, by rw [HX.out]; exact HE1.out, HT1.out⟩⟩
end Go.Proofs.Yteaoaabjdgdcmaa
