/- The library's stable sort at rates: two stretches merged. -/
import Derived.Test.YtbnplhdelpbfdaaSrtB
import Derived.Deep.Cut
set_option linter.unusedVariables false
set_option linter.unusedSimpArgs false
namespace Go.Proofs.Ytbnplhdelpbfdaa
open Go.RowKit
open Flt (nan key lessB cmpI S)
attribute [local go_sem] run_store_f
/-- What the merge answers. -/
def MergeOut (g : Nat) (P A B R : List Nat) (w : World) (e : Ending) (w' : World) : Prop := e = .returned (.tuple #[]) ∧ (∃ C : List Nat, C.Perm (A ++ B) ∧ Srt C ∧ FD w' g (P ++ (C ++ R))) ∧ Turn (fun i => i = g) w w'
def MergeSaid (n : Nat) : Prop := ∀ (g c N a m b : Nat) (P A B R : List Nat) (w : World), A.length + B.length ≤ n → FD w g (P ++ (A ++ (B ++ R))) → (P ++ (A ++ (B ++ R))).length = N → N ≤ 1099511627776 → 0 < A.length → 0 < B.length → a = P.length → m = P.length + A.length → b = P.length + A.length + B.length → Wf A → Wf B → Srt A → Srt B →
    Calls Try.prog 25 #[.slice (some ⟨g, 0, none⟩) N c, .int .i64 (a : Int), .int .i64 (m : Int), .int .i64 (b : Int), (.func (.func 15) #[] #[])] w (MergeOut g P A B R w)
theorem wf_left {a b : List Nat} (h : Wf (a ++ b)) : Wf a := fun x hx => h x (List.mem_append_left _ hx)
theorem wf_right {a b : List Nat} (h : Wf (a ++ b)) : Wf b := fun x hx => h x (List.mem_append_right _ hx)
theorem wf_app {a b : List Nat} (h : Wf a) (k : Wf b) : Wf (a ++ b) := fun x hx => (List.mem_append.1 hx).elim (h x) (k x)
set_option maxRecDepth 100000 in
set_option maxHeartbeats 16000000 in
theorem merge_main (n : Nat) (IH : MergeSaid n) (g c N a m b : Nat) (P A B R : List Nat) (w : World) (hn : A.length + B.length ≤ n + 1) (hD : FD w g (P ++ (A ++ (B ++ R)))) (hN : (P ++ (A ++ (B ++ R))).length = N) (hN2 : N ≤ 1099511627776) (hA2 : 2 ≤ A.length) (hB2 : 2 ≤ B.length) (ha : a = P.length) (hm : m = P.length + A.length) (hb : b = P.length + A.length + B.length) (wA : Wf A) (wB : Wf B) (sA : Srt A) (sB : Srt B) :
    Calls Try.prog 25 #[.slice (some ⟨g, 0, none⟩) N c, .int .i64 (a : Int), .int .i64 (m : Int), .int .i64 (b : Int), (.func (.func 15) #[] #[])] w (MergeOut g P A B R w) := by
  have hbN : b ≤ N := by have := hN; simp at this; omega
  have t9 : (((m : Int) - (a : Int)) == 1) = false := by rw [beq_eq_false_iff_ne]; omega
  have t8 : (((b : Int) - (m : Int)) == 1) = false := by rw [beq_eq_false_iff_ne]; omega
  obtain ⟨D, hDD⟩ : ∃ D, D = P ++ (A ++ (B ++ R)) := ⟨_, rfl⟩
  rw [← hDD] at hD hN
  have hgA : ∀ i, a ≤ i → i < m → gd D i = gd A (i - a) := fun i h1 h2 => by
    have := gd_mid (a := P) (b := A ++ (B ++ R)) (i - a)
    rw [gd_left (a := A) (by omega), show P.length + (i - a) = i by omega] at this
    rw [hDD]; exact this
  have hgB : ∀ i, m ≤ i → i < b → gd D i = gd B (i - m) := fun i h1 h2 => by
    have := gd_mid (a := P ++ A) (b := B ++ R) (i - m)
    rw [gd_left (a := B) (by omega), show (P ++ A).length + (i - m) = i by simp; omega, List.append_assoc] at this
    rw [hDD]; exact this
  obtain ⟨mid, hmid⟩ : ∃ mid, mid = (a + b) / 2 := ⟨_, rfl⟩
  obtain ⟨nn, hnn⟩ : ∃ nn, nn = mid + m := ⟨_, rfl⟩
  obtain ⟨pp, hpp⟩ : ∃ pp, pp = nn - 1 := ⟨_, rfl⟩
  obtain ⟨s0, hs0⟩ : ∃ s0, s0 = if mid < m then mid + m - b else a := ⟨_, rfl⟩
  obtain ⟨r0, hr0⟩ : ∃ r0, r0 = if mid < m then mid else m := ⟨_, rfl⟩
  have HS := Lib.hid (And.intro hs0 hr0)
  have h_am : a + 2 ≤ m := by omega
  have h_mb : m + 2 ≤ b := by omega
  have h_mid1 : a < mid := by omega
  have h_mid2 : mid < b := by omega
  have h_s0 : a ≤ s0 := by rw [hs0]; split <;> omega
  have h_s1 : mid + m ≤ s0 + b := by rw [hs0]; split <;> omega
  have h_sr : s0 ≤ r0 := by rw [hs0, hr0]; split <;> omega
  have h_rm : r0 ≤ m := by rw [hr0]; split <;> omega
  have h_rmid : r0 ≤ mid := by rw [hr0]; split <;> omega
  have HC := Lib.hid (fun i (h1 : s0 ≤ i) (h2 : i < r0) => show m ≤ pp - i ∧ pp - i < b ∧ i ≤ pp by
    rw [hs0] at h1; rw [hr0] at h2
    split at h1 <;> split at h2 <;> omega)
  have hmidI : ((a : Int) + (b : Int)) / 2 = ((mid : Nat) : Int) := by omega
  have hnnI : (mid : Int) + (m : Int) = ((nn : Nat) : Int) := by omega
  have hppI : (nn : Int) - 1 = ((pp : Nat) : Int) := by omega
  have hnN : nn ≤ 2199023255552 := by omega
  have hppN : pp ≤ nn := by omega
  have HDD := Lib.hid (And.intro hDD (And.intro hD hN))
  have HGA := Lib.hid hgA
  have HGB := Lib.hid hgB
  have HAB := Lib.hid (And.intro ha (And.intro hm hb))
  have HNU := Lib.hid (And.intro hmid (And.intro hnn hpp))
  have HW := Lib.hid (And.intro wA (And.intro wB (And.intro sA sB)))
  have HNN := Lib.hid hn
  have WD := Lib.hid (fun i (h1 : a ≤ i) (h2 : i < b) => show gd D i < 18446744073709551616 by
    by_cases h : i < m
    · rw [hgA i h1 h]; exact wA.gd (by omega)
    · rw [hgB i (by omega) h2]; exact wB.gd (by omega))
  clear hDD hD hN hgA hgB ha hm hb wA wB sA sB hn hmid hnn hpp hs0 hr0 hA2 hB2
  go_enter Try.func25, Try.ntmps25
  go_upto_if 140 with fail
  go_cut [20, 21] from 25 (fun s r w2 => s = .int .i64 (s0 : Int) ∧ r = .int .i64 (r0 : Int) ∧ w2 = w)
  case first =>
    by_cases hmm : mid < m
    · have t7 : decide ((mid : Int) < (m : Int)) = true := by rw [decide_eq_true_eq]; omega
      have t7' : decide (mid < m) = true := by rw [decide_eq_true_eq]; omega
      have e1 : (nn : Int) - (b : Int) = ((s0 : Nat) : Int) := by have h1 := HS.out.1; have h2 := HNU.out; rw [if_pos hmm] at h1; omega
      have e2 : (mid : Int) = ((r0 : Nat) : Int) := by have h1 := HS.out.2; rw [if_pos hmm] at h1; omega
      have E2 := Lib.hid e2
      clear e2 hmm
      rw [t7']
      go_wp2_with fail
      go_meet
      case rel => exact ⟨rfl, by rw [E2.out], rfl⟩
    · have t7 : decide ((mid : Int) < (m : Int)) = false := by rw [decide_eq_false_iff_not]; omega
      have t7' : decide (mid < m) = false := by rw [decide_eq_false_iff_not]; omega
      have E1 := Lib.hid (show (a : Int) = ((s0 : Nat) : Int) by have h1 := HS.out.1; rw [if_neg hmm] at h1; omega)
      have E2 := Lib.hid (show (m : Int) = ((r0 : Nat) : Int) by have h1 := HS.out.2; rw [if_neg hmm] at h1; omega)
      clear hmm
      rw [t7']
      go_wp2_with fail
      go_meet
      case rel => exact ⟨by rw [E1.out], by rw [E2.out], rfl⟩
  case rest =>
    obtain ⟨rfl, rfl, hcw⟩ := hcut
    have hcw := hcw.symm
    subst hcw
    go_wp2_with fail
    go_loopw [20, 21] (fun i j wr => ∃ p q : Nat, s0 ≤ p ∧ p ≤ q ∧ q ≤ r0 ∧ i = .int .i64 (p : Int) ∧ j = .int .i64 (q : Int) ∧ (p = s0 ∨ key (gd D (pp - (p - 1))) ≤ key (gd D (p - 1))) ∧ (q = r0 ∨ key (gd D q) ≤ key (gd D (pp - q))) ∧ FD wr g D ∧ Turn (fun _ => False) w wr) (fun i j _ => (intOf j).toNat - (intOf i).toNat)
    case atStart => exact ⟨s0, r0, Nat.le_refl _, h_sr, Nat.le_refl _, rfl, rfl, .inl rfl, .inl rfl, HDD.out.2.1, Turn.refl _ _⟩
    case round =>
      obtain ⟨p, q, hmp, hpq, hqb, rfl, rfl, hi, hj, hFr, htr⟩ := hrel
      by_cases hlt : p < q
      · have t0 : decide ((p : Int) < (q : Int)) = true := by rw [decide_eq_true_eq]; omega
        obtain ⟨h, hh⟩ : ∃ h, h = (p + q) / 2 := ⟨_, rfl⟩
        have hhI : ((p : Int) + (q : Int)) / 2 = ((h : Nat) : Int) := by omega
        have hp1 : p ≤ h := by omega
        have hq1 : h < q := by omega
        have hN1 : (h : Int) < (N : Int) := by omega
        obtain ⟨hx1, hx2, hx3⟩ := HC.out h (by omega) (by omega)
        obtain ⟨x, hx⟩ : ∃ x, x = pp - h := ⟨_, rfl⟩
        have hxI : (pp : Int) - (h : Int) = ((x : Nat) : Int) := by omega
        rw [← hx] at hx1 hx2
        have hN3 : (x : Int) < (N : Int) := by omega
        obtain ⟨d, hd⟩ : ∃ d, d = gd D h := ⟨_, rfl⟩
        obtain ⟨dx, hdx⟩ : ∃ dx, dx = gd D x := ⟨_, rfl⟩
        obtain ⟨ch, zh⟩ := hFr.cell (c := h) (by rw [HDD.out.2.2]; omega)
        obtain ⟨ca, za⟩ := hFr.cell (c := x) (by rw [HDD.out.2.2]; omega)
        rw [← hdx] at ca
        rw [← hd] at ch
        have HFR := Lib.hid (And.intro hFr htr)
        have CM := Lib.hid (fun w n => cmp_quiet dx d w n (by rw [hdx]; exact WD.out x (by omega) (by omega)) (by rw [hd]; exact WD.out h (by omega) (by omega)))
        have tc := cmp_neg dx d
        have HI := Lib.hid (And.intro hi (And.intro hj (And.intro hd (And.intro hdx hx))))
        by_cases hk : key d < key dx
        · rw [show decide (key d < key dx) = true by simp [hk]] at tc
          have HK := Lib.hid (Nat.le_of_lt hk)
          clear hi hj hd hdx hh hk hx hFr htr
          go_wp2_with fail
          go_quiet (exact CM.out _ _)
          go_wp2_with fail
          go_roundw
          case rel =>
            refine ⟨p, h, by omega, by omega, by omega, rfl, rfl, HI.out.1, .inr ?_, HFR.out.1.drewN _, HFR.out.2.drewN _⟩
            rw [← HI.out.2.2.1, ← HI.out.2.2.2.2, ← HI.out.2.2.2.1]; exact HK.out
          case measure => simp [intOf]; omega
        · rw [show decide (key d < key dx) = false by simp; omega] at tc
          have HK := Lib.hid (show key dx ≤ key d by omega)
          clear hi hj hd hdx hh hk hx hFr htr
          go_wp2_with fail
          go_quiet (exact CM.out _ _)
          go_wp2_with fail
          go_roundw
          case rel =>
            refine ⟨h + 1, q, by omega, by omega, by omega, by go_num, rfl, .inr ?_, HI.out.2.1, HFR.out.1.drewN _, HFR.out.2.drewN _⟩
            rw [Nat.add_sub_cancel, ← HI.out.2.2.1, ← HI.out.2.2.2.2, ← HI.out.2.2.2.1]; exact HK.out
          case measure => simp [intOf]; omega
      · obtain rfl : p = q := by omega
        have t0 : decide ((p : Int) < (p : Int)) = false := by rw [decide_eq_false_iff_not]; omega
        obtain ⟨e, he⟩ : ∃ e, e = nn - p := ⟨_, rfl⟩
        have heI : (nn : Int) - (p : Int) = ((e : Nat) : Int) := by have := HNU.out; omega
        obtain ⟨A1, A2, hA, hl1⟩ : ∃ A1 A2, A = A1 ++ A2 ∧ A1.length = p - a := ⟨A.take (p - a), A.drop (p - a), (List.take_append_drop _ _).symm, by rw [List.length_take]; have := HAB.out; omega⟩
        obtain ⟨B1, B2, hB, hl2⟩ : ∃ B1 B2, B = B1 ++ B2 ∧ B1.length = mid - p := ⟨B.take (mid - p), B.drop (mid - p), (List.take_append_drop _ _).symm, by rw [List.length_take]; have := HAB.out; omega⟩
        have hab := HAB.out
        have hnu := HNU.out
        have hlA : A.length = A1.length + A2.length := by rw [hA]; simp
        have hlB : B.length = B1.length + B2.length := by rw [hB]; simp
        have k1 : A2.length = m - p := by omega
        have k2 : B2.length = b - e := by omega
        have k3 : e = m + B1.length := by omega
        have k4 : e = mid + A2.length := by omega
        have k5 : p = a + A1.length := by omega
        have k6 : mid = p + B1.length := by omega
        have k7 : e ≤ b := by omega
        have KK := Lib.hid (And.intro k1 (And.intro k2 (And.intro k3 (And.intro k4 (And.intro k5 k6)))))
        have HI := Lib.hid (And.intro hi (And.intro hj (And.intro hA hB)))
        have HFR := Lib.hid (And.intro hFr htr)
        have HLE := Lib.hid (And.intro he (And.intro hlA hlB))
        clear hi hj hA hB hl1 hl2 hab hnu hlA hlB k1 k2 k3 k4 k5 k6 hFr htr he hlt
        go_upto_region 39 with fail
        go_cut [185] from 181 (fun s w2 => s = .bool (decide (p < m ∧ m < e)) ∧ w2 = wr)
        case first =>
          by_cases c1 : p < m
          · by_cases c2 : m < e
            · have t1 : decide (p < m) = true := by simp [c1]
              have t2 : decide (m < e) = true := by simp [c2]
              have HCC := Lib.hid (show decide (p < m ∧ m < e) = true by simp [c1, c2])
              clear c1 c2
              go_wp2_with fail
              go_meet
              case rel => exact ⟨by rw [HCC.out], rfl⟩
            · have t1 : decide (p < m) = true := by simp [c1]
              have t2 : decide (m < e) = false := by simp; omega
              have HCC := Lib.hid (show decide (p < m ∧ m < e) = false by simp; omega)
              clear c1 c2
              go_wp2_with fail
              go_meet
              case rel => exact ⟨by rw [HCC.out], rfl⟩
          · have t1 : decide (p < m) = false := by simp; omega
            have HCC := Lib.hid (show decide (p < m ∧ m < e) = false by simp; omega)
            clear c1
            go_wp2_with fail
            go_meet
            case rel => exact ⟨by rw [HCC.out], rfl⟩
        case rest =>
          obtain ⟨rfl, rfl⟩ := hcut
          go_upto_if 185 with fail
          go_cut [] from 185 (fun w2 => FD w2 g (P ++ (A1 ++ (B1 ++ (A2 ++ (B2 ++ R))))) ∧ Turn (fun i => i = g) w w2)
          case first =>
            by_cases cb : p < m ∧ m < e
            · have C := Lib.hid (rotate_any g c N p m e (.func (.func 15) #[] #[]) (P ++ A1) A2 B1 (B2 ++ R) wc
                (by have := HFR.out.1; rw [HDD.out.1, HI.out.2.2.1, HI.out.2.2.2] at this; simpa using this)
                (by have := HDD.out.2.2; rw [HDD.out.1, HI.out.2.2.1, HI.out.2.2.2] at this; simpa using this) hN2
                (by have := KK.out; omega) (by have := KK.out; omega) (by have := KK.out; have := HAB.out; simp; omega) (by have := KK.out; have := HAB.out; simp; omega) (by have := KK.out; have := HAB.out; simp; omega))
              rw [show decide (p < m ∧ m < e) = true by simp [cb]]
              clear cb
              go_wp2_with fail
              refine C.out.mono ?_
              rintro _ w3 ⟨rfl, hF3, t3⟩
              have HF3 := Lib.hid (And.intro hF3 t3)
              clear hF3 t3
              go_wp2_with fail
              go_meet
              case rel =>
                refine ⟨?_, (HFR.out.2.mono (fun _ _ h => h.elim)).trans HF3.out.2 (fun _ _ h => h)⟩
                have := HF3.out.1
                simpa using this
            · have HCB := Lib.hid cb
              rw [show decide (p < m ∧ m < e) = false by simp only [decide_eq_false_iff_not]; exact cb]
              clear cb
              go_wp2_with fail
              go_meet
              case rel =>
                refine ⟨?_, HFR.out.2.mono (fun _ _ h => h.elim)⟩
                have h1 := HFR.out.1
                rw [HDD.out.1, HI.out.2.2.1, HI.out.2.2.2] at h1
                have hk := KK.out
                have hc := HCB.out
                by_cases h : A2.length = 0
                · rw [List.length_eq_zero_iff.1 h] at h1 ⊢; simpa using h1
                · have : B1.length = 0 := by omega
                  rw [List.length_eq_zero_iff.1 this] at h1 ⊢; simpa using h1
          case rest =>
            have HF2 := Lib.hid hcut
            clear hcut
            go_upto_region 41 with fail
            go_cut [199] from 192 (fun s w2 => s = .bool (decide (a < p ∧ p < mid)) ∧ w2 = wc)
            case first =>
              by_cases c1 : a < p
              · by_cases c2 : p < mid
                · have t1 : decide (a < p) = true := by simp [c1]
                  have t2 : decide (p < mid) = true := by simp [c2]
                  have HCC := Lib.hid (show decide (a < p ∧ p < mid) = true by simp [c1, c2])
                  clear c1 c2
                  go_wp2_with fail
                  go_meet
                  case rel => exact ⟨by rw [HCC.out], rfl⟩
                · have t1 : decide (a < p) = true := by simp [c1]
                  have t2 : decide (p < mid) = false := by simp; omega
                  have HCC := Lib.hid (show decide (a < p ∧ p < mid) = false by simp; omega)
                  clear c1 c2
                  go_wp2_with fail
                  go_meet
                  case rel => exact ⟨by rw [HCC.out], rfl⟩
              · have t1 : decide (a < p) = false := by simp; omega
                have HCC := Lib.hid (show decide (a < p ∧ p < mid) = false by simp; omega)
                clear c1
                go_wp2_with fail
                go_meet
                case rel => exact ⟨by rw [HCC.out], rfl⟩
            case rest =>
              obtain ⟨rfl, hcw⟩ := hcut
              subst hcw
              go_upto_if 199 with fail
              have WA1 := Lib.hid (show Wf A1 ∧ Wf A2 ∧ Wf B1 ∧ Wf B2 ∧ Srt A1 ∧ Srt A2 ∧ Srt B1 ∧ Srt B2 by
                obtain ⟨h1, h2, h3, h4⟩ := HW.out
                rw [HI.out.2.2.1] at h1 h3
                rw [HI.out.2.2.2] at h2 h4
                exact ⟨wf_left h1, wf_right h1, wf_left h2, wf_right h2, (srt_app.1 h3).1, (srt_app.1 h3).2.1, (srt_app.1 h4).1, (srt_app.1 h4).2.1⟩)
              have HTL := Lib.hid (show P.length + A1.length + B1.length + A2.length + B2.length + R.length = N by
                have := HDD.out.2.2; rw [HDD.out.1, HI.out.2.2.1, HI.out.2.2.2] at this; rw [← this]; simp; omega)
              go_cut [] from 199 (fun w2 => ∃ C1 : List Nat, C1.Perm (A1 ++ B1) ∧ Srt C1 ∧ FD w2 g (P ++ (C1 ++ (A2 ++ (B2 ++ R)))) ∧ Turn (fun i => i = g) w w2)
              case first =>
                by_cases cb : a < p ∧ p < mid
                · have C := Lib.hid (IH g c N a p mid P A1 B1 (A2 ++ (B2 ++ R)) wc (by have := KK.out; have := HAB.out; have := HNN.out; omega) HF2.out.1 (by rw [← HTL.out]; simp; omega) hN2
                    (by have := KK.out; omega) (by have := KK.out; omega) HAB.out.1 (by have := KK.out; have := HAB.out; omega) (by have := KK.out; have := HAB.out; omega) WA1.out.1 WA1.out.2.2.1 WA1.out.2.2.2.2.1 WA1.out.2.2.2.2.2.2.1)
                  rw [show decide (a < p ∧ p < mid) = true by simp [cb]]
                  clear cb
                  go_wp2_with fail
                  refine C.out.mono ?_
                  rintro _ w3 ⟨rfl, hC, t3⟩
                  have HF3 := Lib.hid (And.intro hC t3)
                  clear hC t3
                  go_wp2_with fail
                  go_meet
                  case rel =>
                    obtain ⟨⟨C1, p1, p2, p3⟩, t3⟩ := HF3.out
                    exact ⟨C1, p1, p2, p3, HF2.out.2.trans t3 (fun _ _ h => h)⟩
                · have HCB := Lib.hid cb
                  rw [show decide (a < p ∧ p < mid) = false by simp only [decide_eq_false_iff_not]; exact cb]
                  clear cb
                  go_wp2_with fail
                  go_meet
                  case rel =>
                    refine ⟨A1 ++ B1, List.Perm.refl _, ?_, by have := HF2.out.1; simpa using this, HF2.out.2⟩
                    have hk := KK.out
                    have hc := HCB.out
                    have hw := WA1.out
                    by_cases h : A1.length = 0
                    · rw [List.length_eq_zero_iff.1 h]; simpa using hw.2.2.2.2.2.2.1
                    · have : B1.length = 0 := by omega
                      rw [List.length_eq_zero_iff.1 this]; simpa using hw.2.2.2.2.1
              case rest =>
                obtain ⟨C1, q1, q2, q3, q4⟩ := hcut
                have HQ := Lib.hid (And.intro q1 (And.intro q2 (And.intro q3 q4)))
                have FIN := Lib.hid (fun (C2 : List Nat) (h1 : C2.Perm (A2 ++ B2)) (h2 : Srt C2) => show Srt (C1 ++ C2) ∧ (C1 ++ C2).Perm (A ++ B) by
                  obtain ⟨x1, x2, x3, x4⟩ := HW.out
                  rw [HI.out.2.2.1] at x3
                  rw [HI.out.2.2.2] at x4
                  have hk := KK.out
                  have hab := HAB.out
                  have hnu := HNU.out
                  have hle := HLE.out
                  have hgA := HGA.out
                  have hgB := HGB.out
                  rw [HI.out.2.2.1, HI.out.2.2.2]
                  refine merged x3 x4 HQ.out.1 h1 HQ.out.2.1 h2 (fun n1 n2 => ?_) (fun n1 n2 => ?_)
                  · have l1 : 0 < A1.length := List.length_pos_iff.2 n1
                    have l2 : 0 < B2.length := List.length_pos_iff.2 n2
                    rcases HI.out.1 with h | h
                    · exfalso
                      have hs := HS.out.1
                      split at hs <;> omega
                    · rw [hgA (p - 1) (by omega) (by omega), hgB (pp - (p - 1)) (by omega) (by omega), HI.out.2.2.1, HI.out.2.2.2, gd_left (a := A1) (by omega), gd_right (a := B1) (by omega)] at h
                      rw [show pp - (p - 1) - m - B1.length = 0 by omega, show p - 1 - a = A1.length - 1 by omega] at h
                      exact h
                  · have l1 : 0 < B1.length := List.length_pos_iff.2 n1
                    have l2 : 0 < A2.length := List.length_pos_iff.2 n2
                    rcases HI.out.2.1 with h | h
                    · exfalso
                      have hs := HS.out.2
                      split at hs <;> omega
                    · rw [hgA p (by omega) (by omega), hgB (pp - p) (by omega) (by omega), HI.out.2.2.1, HI.out.2.2.2, gd_right (a := A1) (by omega), gd_left (a := B1) (by omega)] at h
                      rw [show p - a - A1.length = 0 by omega, show pp - p - m = B1.length - 1 by omega] at h
                      exact h)
                clear q1 q2 q3 q4
                go_upto_region 43 with fail
                have hC1 : C1.length = A1.length + B1.length := by have := HQ.out.1.length_eq; simpa using this
                have HC1 := Lib.hid hC1
                clear hC1
                by_cases c1 : mid < e
                · by_cases c2 : e < b
                  · have t1 : decide (mid < e) = true := by simp [c1]
                    have t2 : decide (e < b) = true := by simp [c2]
                    have C := Lib.hid (IH g c N mid e b (P ++ C1) A2 B2 R wc (by have := KK.out; have := HAB.out; have := HNN.out; omega) (by have := HQ.out.2.2.1; simpa using this) (by rw [← HTL.out]; have := HC1.out; simp; omega) hN2
                      (by have := KK.out; omega) (by have := KK.out; omega) (by have := KK.out; have := HAB.out; have := HC1.out; simp; omega) (by have := KK.out; have := HAB.out; have := HC1.out; simp; omega) (by have := KK.out; have := HAB.out; have := HC1.out; simp; omega) WA1.out.2.1 WA1.out.2.2.2.1 WA1.out.2.2.2.2.2.1 WA1.out.2.2.2.2.2.2.2)
                    clear c1 c2
                    go_wp2_with fail
                    refine C.out.mono ?_
                    rintro _ w3 ⟨rfl, hC, t3⟩
                    have HF3 := Lib.hid (And.intro hC t3)
                    clear hC t3
                    go_wp2
                    go_end0
                    obtain ⟨⟨C2, p1, p2, p3⟩, t3⟩ := HF3.out
                    obtain ⟨f1, f2⟩ := FIN.out C2 p1 p2
                    exact ⟨rfl, ⟨C1 ++ C2, f2, f1, by simpa using p3⟩, HQ.out.2.2.2.trans t3 (fun _ _ h => h)⟩
                  · have t1 : decide (mid < e) = true := by simp [c1]
                    have t2 : decide (e < b) = false := by simp; omega
                    have HB0 := Lib.hid (show B2 = [] from List.length_eq_zero_iff.1 (by have := KK.out; omega))
                    clear c1 c2
                    go_wp2
                    go_end0
                    obtain ⟨f1, f2⟩ := FIN.out (A2 ++ B2) (List.Perm.refl _) (by rw [HB0.out, List.append_nil]; exact WA1.out.2.2.2.2.2.1)
                    exact ⟨rfl, ⟨C1 ++ (A2 ++ B2), f2, f1, by have := HQ.out.2.2.1; simpa using this⟩, HQ.out.2.2.2⟩
                · have t1 : decide (mid < e) = false := by simp; omega
                  have HB0 := Lib.hid (show A2 = [] from List.length_eq_zero_iff.1 (by have := KK.out; omega))
                  clear c1
                  go_wp2
                  go_end0
                  obtain ⟨f1, f2⟩ := FIN.out (A2 ++ B2) (List.Perm.refl _) (by rw [HB0.out, List.nil_append]; exact WA1.out.2.2.2.2.2.2.2)
                  exact ⟨rfl, ⟨C1 ++ (A2 ++ B2), f2, f1, by have := HQ.out.2.2.1; simpa using this⟩, HQ.out.2.2.2⟩
theorem merge_any (n : Nat) : MergeSaid n := by
  induction n with
  | zero => intro g c N a m b P A B R w hn; intros; omega
  | succ n ih =>
    intro g c N a m b P A B R w hn hD hN hN2 hA hB ha hm hb wA wB sA sB
    by_cases h1 : A.length = 1
    · obtain ⟨z, rfl⟩ := List.length_eq_one_iff.1 h1
      refine (merge_first g c N a m b z P B R w (by simpa using hD) (by simpa using hN) hN2 ha (by simpa using hm) (by simpa using hb) (wA z (by simp)) wB sB).mono ?_
      rintro e w' ⟨h, ⟨C, p1, p2, p3⟩, t⟩
      exact ⟨h, ⟨C, by simpa using p1, p2, p3⟩, t⟩
    · by_cases h2 : B.length = 1
      · obtain ⟨z, rfl⟩ := List.length_eq_one_iff.1 h2
        refine (merge_last g c N a m b z P A R w (by simpa using hD) (by simpa using hN) hN2 ha (by simpa using hm) (by simpa using hb) (by omega) (wB z (by simp)) wA sA).mono ?_
        rintro e w' ⟨h, ⟨C, p1, p2, p3⟩, t⟩
        exact ⟨h, ⟨C, p1, p2, p3⟩, t⟩
      · exact merge_main n ih g c N a m b P A B R w hn hD hN hN2 (by omega) (by omega) ha hm hb wA wB sA sB
end Go.Proofs.Ytbnplhdelpbfdaa
