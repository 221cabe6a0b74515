/- The library's stable sort at rates: one rate merged into a stretch behind it. -/
import Derived.Test.YtbnplhdelpbfdaaSrtI
set_option linter.unusedVariables false
set_option linter.unusedSimpArgs false
namespace Go.Proofs.Ytbnplhdelpbfdaa
open Go.RowKit
open Flt (nan key lessB cmpI S)
attribute [local go_sem] run_store_f
/-- A place in a sorted stretch, found. -/
theorem srt_put {B1 B2 : List Nat} {z : Nat} (h : Srt (B1 ++ B2)) (h1 : B1 = [] ∨ key z ≤ key (gd (B1 ++ B2) (B1.length - 1))) (h2 : B2 = [] ∨ key (gd (B1 ++ B2) B1.length) ≤ key z) : Srt (B1 ++ z :: B2) := by
  refine srt_ins h (fun y hy => ?_) (fun y hy => ?_)
  · obtain ⟨j, hj, rfl⟩ := mem_gd hy
    rcases h2 with rfl | h2
    · cases hy
    · have := h.le (i := B1.length) (j := B1.length + j) (by omega) (by simp; omega)
      rw [gd_mid] at this; omega
  · obtain ⟨j, hj, rfl⟩ := mem_gd hy
    rcases h1 with rfl | h1
    · cases hy
    · have := h.le (i := j) (j := B1.length - 1) (by omega) (by simp; omega)
      rw [gd_left hj] at this; omega
set_option maxRecDepth 100000 in
set_option maxHeartbeats 8000000 in
theorem merge_first (g c N a m b z : Nat) (P B R : List Nat) (w : World) (hD : FD w g (P ++ (z :: (B ++ R)))) (hN : (P ++ (z :: (B ++ R))).length = N) (hN2 : N ≤ 1099511627776) (ha : a = P.length) (hm : m = P.length + 1) (hb : b = P.length + 1 + B.length) (wz : z < 18446744073709551616) (wB : Wf B) (hs : Srt B) :
    Calls Try.prog 25 #[.slice (some ⟨g, 0, none⟩) N c, .int .i64 (a : Int), .int .i64 (m : Int), .int .i64 (b : Int), (.func (.func 15) #[] #[])] w fun e w' => e = .returned (.tuple #[]) ∧ (∃ C : List Nat, C.Perm (z :: B) ∧ Srt C ∧ FD w' g (P ++ (C ++ R))) ∧ Turn (fun i => i = g) w w' := by
  have hbN : b ≤ N := by have := hN; simp at this; omega
  have hma : (m : Int) - (a : Int) = 1 := by omega
  have haN : (a : Int) < (N : Int) := by omega
  obtain ⟨D, hDD⟩ : ∃ D, D = P ++ (z :: (B ++ R)) := ⟨_, rfl⟩
  rw [← hDD] at hD hN
  have hga : gd D a = z := by rw [hDD, ha]; exact gd_at
  have hgB : ∀ i, gd D (m + i) = gd (B ++ R) i := fun i => by
    rw [hDD, hm]
    have := gd_mid (a := P) (b := z :: (B ++ R)) (1 + i)
    rw [← Nat.add_assoc] at this
    rw [this, Nat.add_comm 1 i]; rfl
  have HGA := Lib.hid hga
  have HDD := Lib.hid (And.intro hDD (And.intro hD hN))
  have HGB := Lib.hid hgB
  have HAB := Lib.hid (And.intro ha (And.intro hm hb))
  have HB := Lib.hid (And.intro wB hs)
  have WZ := Lib.hid wz
  have hmb : m ≤ b := by omega
  have ham : a ≤ m := by omega
  have hm0 : m = a + 1 := by omega
  have HM0 := Lib.hid hm0
  have WD := Lib.hid (fun i (h1 : m ≤ i) (h2 : i < b) => show gd D i < 18446744073709551616 by
    have := hgB (i - m)
    rw [show m + (i - m) = i by omega] at this
    rw [this, gd_left (by omega)]; exact wB.gd (by omega))
  clear hDD hD hN hga hgB ha hm hb wz wB hs hm0
  go_enter Try.func25, Try.ntmps25
  go_wp2_with fail
  go_loopw [10, 11] (fun i j wr => ∃ p q : Nat, m ≤ p ∧ p ≤ q ∧ q ≤ b ∧ i = .int .i64 (p : Int) ∧ j = .int .i64 (q : Int) ∧ (p = m ∨ key z < key (gd D (p - 1))) ∧ (q = b ∨ key (gd D q) ≤ key z) ∧ FD wr g D ∧ Turn (fun _ => False) w wr) (fun i j _ => (intOf j).toNat - (intOf i).toNat)
  case atStart => exact ⟨m, b, Nat.le_refl _, hmb, Nat.le_refl _, rfl, rfl, .inl rfl, .inl rfl, HDD.out.2.1, Turn.refl _ _⟩
  case round =>
    obtain ⟨p, q, hmp, hpq, hqb, rfl, rfl, hi, hj, hFr, htr⟩ := hrel
    by_cases hlt : p < q
    · have t0 : decide ((p : Int) < (q : Int)) = true := by rw [decide_eq_true_eq]; omega
      obtain ⟨h, hh⟩ : ∃ h, h = (p + q) / 2 := ⟨_, rfl⟩
      have hhI : ((p : Int) + (q : Int)) / 2 = ((h : Nat) : Int) := by omega
      have hp1 : p ≤ h := by omega
      have hq1 : h < q := by omega
      have hN1 : (h : Int) < (N : Int) := by omega
      obtain ⟨d, hd⟩ : ∃ d, d = gd D h := ⟨_, rfl⟩
      obtain ⟨ch, zh⟩ := hFr.cell (c := h) (by rw [HDD.out.2.2]; omega)
      obtain ⟨ca, za⟩ := hFr.cell (c := a) (by rw [HDD.out.2.2]; omega)
      rw [HGA.out] at ca
      have HFR := Lib.hid (And.intro hFr htr)
      rw [← hd] at ch
      have CM := Lib.hid (fun w n => cmp_quiet d z w n (by rw [hd]; exact WD.out h (by omega) (by omega)) WZ.out)
      have tc := cmp_neg d z
      have HI := Lib.hid (And.intro hi (And.intro hj hd))
      by_cases hk : key z < key d
      · rw [show decide (key z < key d) = true by simp [hk]] at tc
        have HK := Lib.hid hk
        clear hi hj hd hh hk hFr htr
        go_wp2_with fail
        go_quiet (exact CM.out _ _)
        go_wp2_with fail
        go_roundw
        case rel =>
          refine ⟨h + 1, q, by omega, by omega, by omega, by go_num, rfl, .inr ?_, HI.out.2.1, HFR.out.1.drewN _, HFR.out.2.drewN _⟩
          · rw [Nat.add_sub_cancel, ← HI.out.2.2]; exact HK.out
        case measure => simp [intOf]; omega
      · rw [show decide (key z < key d) = false by simp; omega] at tc
        have HK := Lib.hid (show key d ≤ key z by omega)
        clear hi hj hd hh hk hFr htr
        go_wp2_with fail
        go_quiet (exact CM.out _ _)
        go_wp2_with fail
        go_roundw
        case rel =>
          refine ⟨p, h, by omega, by omega, by omega, rfl, rfl, HI.out.1, .inr ?_, HFR.out.1.drewN _, HFR.out.2.drewN _⟩
          · rw [← HI.out.2.2]; exact HK.out
        case measure => simp [intOf]; omega
    · obtain rfl : p = q := by omega
      have t0 : decide ((p : Int) < (p : Int)) = false := by rw [decide_eq_false_iff_not]; omega
      obtain ⟨B1, B2, hB, hl⟩ : ∃ B1 B2, B = B1 ++ B2 ∧ B1.length = p - m := ⟨B.take (p - m), B.drop (p - m), (List.take_append_drop _ _).symm, by rw [List.length_take]; have := HAB.out; omega⟩
      have HI := Lib.hid (And.intro hi (And.intro hj (And.intro hB hl)))
      have HFR := Lib.hid (And.intro hFr htr)
      clear hi hj hB hl hlt hFr htr
      obtain ⟨e, he⟩ : ∃ e, e = p - 1 := ⟨_, rfl⟩
      have hpe : (p : Int) - 1 = ((e : Nat) : Int) := by omega
      have hwe : IntKind.i64.wrap (e : Int) = (e : Int) := IntWalk.i64_in _ (by omega)
      have HE := Lib.hid (show e = a + B1.length by have := HI.out.2.2.2; have := HM0.out; omega)
      have heN : (e : Int) < (N : Int) := by omega
      clear he
      go_wp2_with fail
      go_loopw [13] (fun k wr => ∃ S1 S2 : List Nat, B1 = S1 ++ S2 ∧ k = .int .i64 ((a + S1.length : Nat) : Int) ∧ FD wr g (P ++ (S1 ++ z :: (S2 ++ (B2 ++ R)))) ∧ Turn (fun i => i = g) w wr) (fun k _ => e - (intOf k).toNat)
      case atStart =>
        refine ⟨[], B1, rfl, by simp, ?_, HFR.out.2.mono (fun _ _ h => h.elim)⟩
        have := HFR.out.1
        rw [HDD.out.1, HI.out.2.2.1] at this
        simpa using this
      case round =>
        obtain ⟨S1, S2, hS, rfl, hF, ht⟩ := hrel
        obtain ⟨k, hk⟩ : ∃ k, k = a + S1.length := ⟨_, rfl⟩
        rw [← hk]
        cases S2 with
        | nil =>
          have hke : k = e := by have := HE.out; rw [hS] at this; simp at this; omega
          subst hke
          have t0 : decide ((k : Int) < (k : Int)) = false := by rw [decide_eq_false_iff_not]; omega
          have HO := Lib.hid (And.intro hS (And.intro hF ht))
          clear hS hF ht hk
          go_wp2
          refine bodyPost_ret (results_none rfl _ _ _) rfl ?_
          have hB1 : B1 = S1 := by have := HO.out.1; rw [List.append_nil] at this; exact this
          have hBe : B = B1 ++ B2 := HI.out.2.2.1
          have hs := HB.out.2
          have hpm : p = m + B1.length := by have := HI.out.2.2.2; omega
          have hgB := HGB.out
          refine ⟨rfl, ⟨B1 ++ z :: B2, ?_, ?_, ?_⟩, HO.out.2.2⟩
          · rw [hBe]; exact List.perm_middle
          · refine srt_put (by rw [← hBe]; exact hs) ?_ ?_
            · rcases HI.out.1 with h | h
              · exact .inl (List.length_eq_zero_iff.1 (by omega))
              · by_cases hz : B1.length = 0
                · exact .inl (List.length_eq_zero_iff.1 hz)
                · refine .inr ?_
                  have h1 := hgB (B1.length - 1)
                  rw [show m + (B1.length - 1) = p - 1 by omega, gd_left (by rw [hBe]; simp; omega), hBe] at h1
                  rw [← h1]; omega
            · by_cases hz : B2.length = 0
              · exact .inl (List.length_eq_zero_iff.1 hz)
              · rcases HI.out.2.1 with h | h
                · exfalso
                  have h2 := HAB.out
                  rw [hBe] at h2
                  simp at h2; omega
                · refine .inr ?_
                  have h1 := hgB B1.length
                  rw [← hpm, gd_left (by rw [hBe]; simp; omega), hBe] at h1
                  rw [← h1]; exact h
          · have := HO.out.2.1
            rw [hB1]; simpa using this
        | cons u S2 =>
          have hke : k < e := by have := HE.out; rw [hS] at this; simp at this; omega
          have t0 : decide ((k : Int) < (e : Int)) = true := by rw [decide_eq_true_eq]; omega
          obtain ⟨E, hE⟩ : ∃ E, E = (P ++ S1) ++ z :: u :: (S2 ++ (B2 ++ R)) := ⟨_, rfl⟩
          have hF' : FD wr g E := by rw [hE]; simpa using hF
          have hkl : k = (P ++ S1).length := by rw [hk]; have := HAB.out.1; simp; omega
          have hEl : k + 1 < E.length := by rw [hE, hkl]; simp; omega
          have ez : gd E k = z := by rw [hE, hkl]; exact gd_at
          have eu : gd E (k + 1) = u := by
            have := gd_mid (a := P ++ S1) (b := z :: u :: (S2 ++ (B2 ++ R))) 1
            rw [hE, hkl]; exact this
          obtain ⟨c1, z1⟩ := hF'.cell (c := k) (by omega)
          obtain ⟨c2, z2⟩ := hF'.cell (c := k + 1) hEl
          rw [ez] at c1
          rw [eu] at c2
          have hqN : (k : Int) + 1 < (N : Int) := by omega
          have hqN0 : (0 : Int) ≤ (k : Int) + 1 := by omega
          have hqN1 : (k : Int) < (N : Int) := by omega
          have hqN2 : ((k : Int) + 1).toNat = k + 1 := by omega
          have HO := Lib.hid (And.intro hS (And.intro hF' (And.intro ht (And.intro hE (And.intro hkl (And.intro ez eu))))))
          have HKA := Lib.hid hk
          clear hS hF hF' ht hE hkl hEl ez eu hk
          go_upto_region 11 with fail
          go_region
          go_wp2_with fail
          go_roundw
          case rel =>
            have hsw := HO.out.2.1.swp k (k + 1)
            rw [HO.out.2.2.2.2.2.1, HO.out.2.2.2.2.2.2, HO.out.2.2.2.1, swp_next HO.out.2.2.2.2.1 (by rw [HO.out.2.2.2.2.1])] at hsw
            refine ⟨S1 ++ [u], S2, by rw [HO.out.1]; simp, ?_, by simpa using hsw.drew, (HO.out.2.2.1.trans (swp_turn _ g k (k + 1) _ _) (fun _ _ h => h)).drew⟩
            rw [List.length_append, List.length_singleton, ← Nat.add_assoc, ← HKA.out]; go_num
          case measure => simp [intOf]; omega
end Go.Proofs.Ytbnplhdelpbfdaa
