/- The library's stable sort at rates: one rate merged into a stretch ahead of it. -/
import Derived.Test.YtbnplhdelpbfdaaSrtA
set_option linter.unusedVariables false
set_option linter.unusedSimpArgs false
namespace Go.Proofs.Ytbnplhdelpbfdaa
open Go.RowKit
open Flt (nan key lessB cmpI S)
attribute [local go_sem] run_store_f
set_option maxRecDepth 100000 in
set_option maxHeartbeats 8000000 in
theorem merge_last (g c N a m b z : Nat) (P A R : List Nat) (w : World) (hD : FD w g (P ++ (A ++ (z :: R)))) (hN : (P ++ (A ++ (z :: R))).length = N) (hN2 : N ≤ 1099511627776) (ha : a = P.length) (hm : m = P.length + A.length) (hb : b = P.length + A.length + 1) (h2 : 2 ≤ A.length) (wz : z < 18446744073709551616) (wA : Wf A) (hs : Srt A) :
    Calls Try.prog 25 #[.slice (some ⟨g, 0, none⟩) N c, .int .i64 (a : Int), .int .i64 (m : Int), .int .i64 (b : Int), (.func (.func 15) #[] #[])] w fun e w' => e = .returned (.tuple #[]) ∧ (∃ C : List Nat, C.Perm (A ++ [z]) ∧ Srt C ∧ FD w' g (P ++ (C ++ R))) ∧ Turn (fun i => i = g) w w' := by
  have hbN : b ≤ N := by have := hN; simp at this; omega
  have t9 : (((m : Int) - (a : Int)) == 1) = false := by rw [beq_eq_false_iff_ne]; omega
  have hbm : (b : Int) - (m : Int) = 1 := by omega
  have hmN : (m : Int) < (N : Int) := by omega
  obtain ⟨D, hDD⟩ : ∃ D, D = P ++ (A ++ (z :: R)) := ⟨_, rfl⟩
  rw [← hDD] at hD hN
  have hgm : gd D m = z := by
    have := gd_at (a := P ++ A) (b := R) (x := z)
    rw [hDD, hm]; simpa using this
  have hgA : ∀ i, i < A.length → gd D (a + i) = gd A i := fun i hi => by
    rw [hDD, ha, gd_mid, gd_left hi]
  have HGM := Lib.hid hgm
  have HDD := Lib.hid (And.intro hDD (And.intro hD hN))
  have HGA := Lib.hid hgA
  have HAB := Lib.hid (And.intro ha (And.intro hm hb))
  have HA := Lib.hid (And.intro wA hs)
  have WZ := Lib.hid wz
  have ham : a ≤ m := by omega
  have hmb : m < b := by omega
  have WD := Lib.hid (fun i (h1 : a ≤ i) (h2 : i < m) => show gd D i < 18446744073709551616 by
    have := hgA (i - a) (by omega)
    rw [show a + (i - a) = i by omega] at this
    rw [this]; exact wA.gd (by omega))
  clear hDD hD hN hgm hgA ha hm hb wz wA hs h2
  go_enter Try.func25, Try.ntmps25
  go_wp2_with fail
  go_loopw [14, 15] (fun i j wr => ∃ p q : Nat, a ≤ p ∧ p ≤ q ∧ q ≤ m ∧ i = .int .i64 (p : Int) ∧ j = .int .i64 (q : Int) ∧ (p = a ∨ key z ≤ key (gd D (p - 1))) ∧ (q = m ∨ key (gd D q) ≤ key z) ∧ FD wr g D ∧ Turn (fun _ => False) w wr) (fun i j _ => (intOf j).toNat - (intOf i).toNat)
  case atStart => exact ⟨a, m, Nat.le_refl _, ham, Nat.le_refl _, rfl, rfl, .inl rfl, .inl rfl, HDD.out.2.1, Turn.refl _ _⟩
  case round =>
    obtain ⟨p, q, hmp, hpq, hqb, rfl, rfl, hi, hj, hFr, htr⟩ := hrel
    by_cases hlt : p < q
    · have t0 : decide ((p : Int) < (q : Int)) = true := by rw [decide_eq_true_eq]; omega
      obtain ⟨h, hh⟩ : ∃ h, h = (p + q) / 2 := ⟨_, rfl⟩
      have hhI : ((p : Int) + (q : Int)) / 2 = ((h : Nat) : Int) := by omega
      have hp1 : p ≤ h := by omega
      have hq1 : h < q := by omega
      have hN1 : (h : Int) < (N : Int) := by omega
      obtain ⟨d, hd⟩ : ∃ d, d = gd D h := ⟨_, rfl⟩
      obtain ⟨ch, zh⟩ := hFr.cell (c := h) (by rw [HDD.out.2.2]; omega)
      obtain ⟨ca, za⟩ := hFr.cell (c := m) (by rw [HDD.out.2.2]; omega)
      rw [HGM.out] at ca
      have HFR := Lib.hid (And.intro hFr htr)
      rw [← hd] at ch
      have CM := Lib.hid (fun w n => cmp_quiet z d w n WZ.out (by rw [hd]; exact WD.out h (by omega) (by omega)))
      have tc := cmp_neg z d
      have HI := Lib.hid (And.intro hi (And.intro hj hd))
      by_cases hk : key d < key z
      · rw [show decide (key d < key z) = true by simp [hk]] at tc
        have HK := Lib.hid (Nat.le_of_lt hk)
        clear hi hj hd hh hk hFr htr
        go_wp2_with fail
        go_quiet (exact CM.out _ _)
        go_wp2_with fail
        go_roundw
        case rel =>
          refine ⟨p, h, by omega, by omega, by omega, rfl, rfl, HI.out.1, .inr ?_, HFR.out.1.drewN _, HFR.out.2.drewN _⟩
          rw [← HI.out.2.2]; exact HK.out
        case measure => simp [intOf]; omega
      · rw [show decide (key d < key z) = false by simp; omega] at tc
        have HK := Lib.hid (show key z ≤ key d by omega)
        clear hi hj hd hh hk hFr htr
        go_wp2_with fail
        go_quiet (exact CM.out _ _)
        go_wp2_with fail
        go_roundw
        case rel =>
          refine ⟨h + 1, q, by omega, by omega, by omega, by go_num, rfl, .inr ?_, HI.out.2.1, HFR.out.1.drewN _, HFR.out.2.drewN _⟩
          rw [Nat.add_sub_cancel, ← HI.out.2.2]; exact HK.out
        case measure => simp [intOf]; omega
    · obtain rfl : p = q := by omega
      have t0 : decide ((p : Int) < (p : Int)) = false := by rw [decide_eq_false_iff_not]; omega
      obtain ⟨A1, A2, hA, hl⟩ : ∃ A1 A2, A = A1 ++ A2 ∧ A1.length = p - a := ⟨A.take (p - a), A.drop (p - a), (List.take_append_drop _ _).symm, by rw [List.length_take]; have := HAB.out; omega⟩
      have HI := Lib.hid (And.intro hi (And.intro hj (And.intro hA hl)))
      have HFR := Lib.hid (And.intro hFr htr)
      have HM := Lib.hid (show m = p + A2.length by have h1 := HAB.out; rw [hA] at h1; simp at h1; omega)
      clear hi hj hA hl hlt hFr htr
      go_wp2_with fail
      go_loopw [17] (fun k wr => ∃ S1 S2 : List Nat, A2 = S1 ++ S2 ∧ k = .int .i64 ((p + S1.length : Nat) : Int) ∧ FD wr g (P ++ (A1 ++ (S1 ++ z :: (S2 ++ R)))) ∧ Turn (fun i => i = g) w wr) (fun k _ => (intOf k).toNat)
      case atStart =>
        refine ⟨A2, [], by simp, by rw [← HM.out], ?_, HFR.out.2.mono (fun _ _ h => h.elim)⟩
        have := HFR.out.1
        rw [HDD.out.1, HI.out.2.2.1] at this
        simpa using this
      case round =>
        obtain ⟨S1, S2, hS, rfl, hF, ht⟩ := hrel
        rcases List.eq_nil_or_concat S1 with rfl | ⟨S1', u, hSS⟩
        · have t1 : decide ((p : Int) < (p : Int)) = false := by rw [decide_eq_false_iff_not]; omega
          have HO := Lib.hid (And.intro hS (And.intro hF ht))
          clear hS hF ht
          rw [List.length_nil, Nat.add_zero]
          go_wp2
          refine bodyPost_ret (results_none rfl _ _ _) rfl ?_
          have hA2 : A2 = S2 := by have := HO.out.1; rw [List.nil_append] at this; exact this
          have hAe : A = A1 ++ A2 := HI.out.2.2.1
          have hs := HA.out.2
          have hpa : p = a + A1.length := by have := HI.out.2.2.2; omega
          have hgA := HGA.out
          refine ⟨rfl, ⟨A1 ++ z :: A2, ?_, ?_, ?_⟩, HO.out.2.2⟩
          · rw [hAe]; exact List.perm_middle.trans (List.perm_append_singleton z (A1 ++ A2)).symm
          · refine srt_put (by rw [← hAe]; exact hs) ?_ ?_
            · rcases HI.out.1 with h | h
              · exact .inl (List.length_eq_zero_iff.1 (by omega))
              · by_cases hz : A1.length = 0
                · exact .inl (List.length_eq_zero_iff.1 hz)
                · refine .inr ?_
                  have h1 := hgA (A1.length - 1) (by rw [hAe]; simp; omega)
                  rw [show a + (A1.length - 1) = p - 1 by omega, hAe] at h1
                  rw [← h1]; exact h
            · by_cases hz : A2.length = 0
              · exact .inl (List.length_eq_zero_iff.1 hz)
              · rcases HI.out.2.1 with h | h
                · exfalso; have := HM.out; omega
                · refine .inr ?_
                  have h1 := hgA A1.length (by rw [hAe]; simp; omega)
                  rw [← hpa, hAe] at h1
                  rw [← h1]; exact h
          · have := HO.out.2.1
            rw [hA2]; simpa using this
        · rw [List.concat_eq_append] at hSS
          subst hSS
          obtain ⟨k, hk⟩ : ∃ k, k = p + S1'.length := ⟨_, rfl⟩
          have hkm : k < m := by have h1 := HM.out; rw [hS] at h1; simp at h1; omega
          have hk1 : p + (S1' ++ [u]).length = k + 1 := by simp; omega
          rw [hk1]
          have t1 : decide (p < k + 1) = true := by rw [decide_eq_true_eq]; omega
          have t1' : decide ((p : Int) < (k : Int) + 1) = true := by rw [decide_eq_true_eq]; omega
          obtain ⟨E, hE⟩ : ∃ E, E = (P ++ (A1 ++ S1')) ++ u :: z :: (S2 ++ R) := ⟨_, rfl⟩
          have hF' : FD wr g E := by rw [hE]; simpa using hF
          have hkl : k = (P ++ (A1 ++ S1')).length := by rw [hk]; have h1 := HAB.out.1; have h3 := HI.out.2.2.2; simp; omega
          have hEl : k + 1 < E.length := by rw [hE, hkl]; simp; omega
          have eu : gd E k = u := by rw [hE, hkl]; exact gd_at
          have ez : gd E (k + 1) = z := by
            have := gd_mid (a := P ++ (A1 ++ S1')) (b := u :: z :: (S2 ++ R)) 1
            rw [hE, hkl]; exact this
          obtain ⟨c1, z1⟩ := hF'.cell (c := k) (by omega)
          obtain ⟨c2, z2⟩ := hF'.cell (c := k + 1) hEl
          rw [eu] at c1
          rw [ez] at c2
          have hqN : (k : Int) + 1 < (N : Int) := by omega
          have hqN0 : (0 : Int) ≤ (k : Int) + 1 := by omega
          have hqN1 : (k : Int) < (N : Int) := by omega
          have hwp : IntKind.i64.wrap (k : Int) = (k : Int) := IntWalk.i64_in _ (by omega)
          have hqN2 : ((k : Int) + 1).toNat = k + 1 := by omega
          have HO := Lib.hid (And.intro hS (And.intro hF' (And.intro ht (And.intro hE (And.intro hkl (And.intro ez eu))))))
          have HKA := Lib.hid hk
          clear hS hF hF' ht hE hkl hEl ez eu hk hk1
          go_upto_region 23 with fail
          go_region
          go_wp2_with fail
          go_roundw
          case rel =>
            have hsw := HO.out.2.1.swp (k + 1) k
            rw [HO.out.2.2.2.2.2.1, HO.out.2.2.2.2.2.2, HO.out.2.2.2.1, swp_prev HO.out.2.2.2.2.1 (by rw [HO.out.2.2.2.2.1])] at hsw
            refine ⟨S1', u :: S2, by rw [HO.out.1]; simp, ?_, by simpa using hsw.drew, (HO.out.2.2.1.trans (swp_turn _ g (k + 1) k _ _) (fun _ _ h => h)).drew⟩
            rw [← HKA.out]
          case measure => simp [intOf]
end Go.Proofs.Ytbnplhdelpbfdaa
