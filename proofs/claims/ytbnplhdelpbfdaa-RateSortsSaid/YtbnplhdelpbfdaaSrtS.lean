/- The library's stable sort at rates: all of it. -/
import Derived.Test.YtbnplhdelpbfdaaSrtM
import Derived.Test.YtbnplhdelpbfdaaSrtQ
set_option linter.unusedVariables false
set_option linter.unusedSimpArgs false
namespace Go.Proofs.Ytbnplhdelpbfdaa
open Go.RowKit
open Flt (nan key lessB cmpI S)
theorem drop_split {E : List Nat} {a b : Nat} (h1 : a ≤ b) (h2 : b ≤ E.length) : sg E a b ++ E.drop b = E.drop a := by
  have := List.take_append_drop (b - a) (E.drop a)
  rw [List.drop_drop, show a + (b - a) = b by omega] at this
  exact this
theorem sg_two {E : List Nat} {a m b : Nat} (h1 : a ≤ m) (h2 : m ≤ b) (h3 : b ≤ E.length) : sg E a m ++ sg E m b = sg E a b := by
  have e1 := drop_split (E := E) (a := a) (b := b) (by omega) h3
  have e2 := drop_split (E := E) (a := m) (b := b) (by omega) h3
  have e3 := drop_split (E := E) (a := a) (b := m) (by omega) (by omega)
  rw [← e2, ← e1, ← List.append_assoc] at e3
  exact List.append_cancel_right e3
theorem wf_sg {E : List Nat} (h : Wf E) (a b : Nat) : Wf (sg E a b) := fun x hx => h x (List.mem_of_mem_drop (List.mem_of_mem_take hx))
theorem insert_seg (g c N a b : Nat) (E : List Nat) (w : World) (hD : FD w g E) (hN : E.length = N) (hN2 : N ≤ 1099511627776) (h1 : a ≤ b) (h2 : b ≤ N) (hwf : Wf E) :
    Calls Try.prog 24 #[.slice (some ⟨g, 0, none⟩) N c, .int .i64 (a : Int), .int .i64 (b : Int), (.func (.func 15) #[] #[])] w fun e w' => e = .returned (.tuple #[]) ∧ (∃ Y : List Nat, Y.Perm (sg E a b) ∧ Srt Y ∧ FD w' g (putL E a b Y)) ∧ Turn (fun i => i = g) w w' := by
  have hl : (E.take a).length = a := by simp; omega
  have hs := sg_split (E := E) h1 (by omega)
  exact insert_any g c N a b (E.take a) (sg E a b) (E.drop b) w (by rw [hs]; exact hD) (by rw [hs]; exact hN) hN2 hl.symm (by rw [hl, sg_len h1 (by omega)]; omega) (wf_sg hwf a b)
theorem merge_seg (g c N a m b : Nat) (E : List Nat) (w : World) (hD : FD w g E) (hN : E.length = N) (hN2 : N ≤ 1099511627776) (h1 : a < m) (h2 : m < b) (h3 : b ≤ N) (hwf : Wf E) (o1 : Ord E a m) (o2 : Ord E m b) :
    Calls Try.prog 25 #[.slice (some ⟨g, 0, none⟩) N c, .int .i64 (a : Int), .int .i64 (m : Int), .int .i64 (b : Int), (.func (.func 15) #[] #[])] w fun e w' => e = .returned (.tuple #[]) ∧ (∃ Y : List Nat, Y.Perm (sg E a b) ∧ Srt Y ∧ FD w' g (putL E a b Y)) ∧ Turn (fun i => i = g) w w' := by
  have hl : (E.take a).length = a := by simp; omega
  have l1 := sg_len (E := E) (a := a) (b := m) (by omega) (by omega)
  have l2 := sg_len (E := E) (a := m) (b := b) (by omega) (by omega)
  have hs : E.take a ++ (sg E a m ++ (sg E m b ++ E.drop b)) = E := by
    rw [← List.append_assoc (sg E a m), sg_two (by omega) (by omega) (by omega)]
    exact sg_split (by omega) (by omega)
  refine (merge_any _ g c N a m b (E.take a) (sg E a m) (sg E m b) (E.drop b) w (Nat.le_refl _) (by rw [hs]; exact hD) (by rw [hs]; exact hN) hN2 (by omega) (by omega) hl.symm (by omega) (by omega) (wf_sg hwf _ _) (wf_sg hwf _ _) (sg_srt o1 (by omega) (by omega)) (sg_srt o2 (by omega) (by omega))).mono ?_
  rintro e w' ⟨h, ⟨C, p1, p2, p3⟩, t⟩
  exact ⟨h, ⟨C, by rw [← sg_two (m := m) (by omega) (by omega) (by omega)]; exact p1, p2, p3⟩, t⟩
/-- What is so between the calls. -/
structure St (w : World) (g N : Nat) (D : List Nat) (wr : World) (E : List Nat) : Prop where
  f : FD wr g E
  p : E.Perm D
  t : Turn (fun i => i = g) w wr
theorem St.len {w wr : World} {g N : Nat} {D E : List Nat} (h : St w g N D wr E) (hN : D.length = N) : E.length = N := by rw [h.p.length_eq, hN]
theorem St.next {w wr w' : World} {g N a b : Nat} {D E Y : List Nat} (h : St w g N D wr E) (hN : D.length = N) (hY : Y.Perm (sg E a b)) (hF : FD w' g (putL E a b Y)) (t : Turn (fun i => i = g) wr w') (h1 : a ≤ b) (h2 : b ≤ N) : St w g N D w' (putL E a b Y) :=
  ⟨hF, (put_perm hY h1 (by rw [h.len hN]; exact h2)).trans h.p, h.t.trans t (fun _ _ h => h)⟩
set_option maxRecDepth 100000 in
set_option maxHeartbeats 8000000 in
theorem stable_any (g c N : Nat) (D : List Nat) (w : World) (hD : FD w g D) (hN : D.length = N) (hN2 : N ≤ 1099511627776) (hwf : Wf D) :
    Calls Try.prog 21 #[.slice (some ⟨g, 0, none⟩) N c, .int .i64 (N : Int), (.func (.func 15) #[] #[])] w fun e w' => e = .returned (.tuple #[]) ∧ (∃ E : List Nat, E.Perm D ∧ Srt E ∧ FD w' g E) ∧ Turn (fun i => i = g) w w' := by
  have HD := Lib.hid hD
  have HN := Lib.hid hN
  have HW := Lib.hid hwf
  have INS := Lib.hid (fun (a b : Nat) (E : List Nat) (wr : World) (h : St w g N D wr E) (h1 : a ≤ b) (h2 : b ≤ N) => insert_seg g c N a b E wr h.f (h.len hN) hN2 h1 h2 (hwf.perm h.p))
  have MRG := Lib.hid (fun (a m b : Nat) (E : List Nat) (wr : World) (h : St w g N D wr E) (h1 : a < m) (h2 : m < b) (h3 : b ≤ N) (o1 : Ord E a m) (o2 : Ord E m b) => merge_seg g c N a m b E wr h.f (h.len hN) hN2 h1 h2 h3 (hwf.perm h.p) o1 o2)
  clear hD hN hwf
  go_enter Try.func21, Try.ntmps21
  go_wp2_with fail
  go_loopw [7, 8] (fun i j wr => ∃ (a b : Nat) (E : List Nat), a ≤ N ∧ b = a + 20 ∧ i = .int .i64 (a : Int) ∧ j = .int .i64 (b : Int) ∧ Pre 20 E a ∧ St w g N D wr E) (fun i j _ => N - (intOf i).toNat)
  case atStart => exact ⟨0, 20, D, Nat.zero_le _, rfl, rfl, rfl, Pre.zero, HD.out, List.Perm.refl _, Turn.refl _ _⟩
  case round =>
    obtain ⟨a, b, E, haN, hb, rfl, rfl, hP, hS⟩ := hrel
    have hab : a < b := by omega
    have hab2 : b ≤ N + 20 := by omega
    by_cases hgo : b ≤ N
    · have t0 : decide (b ≤ N) = true := by rw [decide_eq_true_eq]; omega
      have t0' : decide ((b : Int) ≤ (N : Int)) = true := by rw [decide_eq_true_eq]; omega
      have C := Lib.hid (INS.out a b E wr hS (by omega) (by omega))
      have HPS := Lib.hid (And.intro hP (And.intro hS hb))
      clear hP hS hb
      go_wp2_with fail
      refine C.out.mono ?_
      rintro _ w2 ⟨rfl, hY, t2⟩
      have HY := Lib.hid (And.intro hY t2)
      clear hY t2
      go_wp2_with fail
      go_roundw
      case rel =>
        obtain ⟨⟨Y, y1, y2, y3⟩, t2⟩ := HY.out
        obtain ⟨hP, hS, hb⟩ := HPS.out
        have hl := hS.len HN.out
        have hYl : Y.length = b - a := by rw [y1.length_eq, sg_len (by omega) (by omega)]
        refine ⟨b, b + 20, putL E a b Y, hgo, rfl, rfl, by go_num, ?_, hS.next HN.out y1 y3 t2 (by omega) hgo⟩
        have := (hP.put hYl (by omega) (by omega)).next (by rw [← hb]; exact put_ord hYl (by omega) (by omega) y2)
        rw [← hb] at this; exact this
      case measure => simp [intOf]; omega
    · have t0 : decide (b ≤ N) = false := by rw [decide_eq_false_iff_not]; omega
      have t0' : decide ((b : Int) ≤ (N : Int)) = false := by rw [decide_eq_false_iff_not]; omega
      have C := Lib.hid (INS.out a N E wr hS (by omega) (by omega))
      have HPS := Lib.hid (And.intro hP (And.intro hS hb))
      clear hP hS hb
      go_wp2_with fail
      refine C.out.mono ?_
      rintro _ w2 ⟨rfl, hY, t2⟩
      obtain ⟨Y, y1, y2, y3⟩ := hY
      obtain ⟨E2, hE2⟩ : ∃ E2, E2 = putL E a N Y := ⟨_, rfl⟩
      have HR2 := Lib.hid (show Runs 20 E2 0 N by
        obtain ⟨hP, hS, hb⟩ := HPS.out
        have hl := hS.len HN.out
        have hYl : Y.length = N - a := by rw [y1.length_eq, sg_len (by omega) (by omega)]
        rw [hE2]
        exact (hP.put hYl (by omega) (by omega)).done (put_ord hYl (by omega) (by omega) y2) (by omega))
      have HS2 := Lib.hid (show St w g N D w2 E2 by rw [hE2]; exact HPS.out.2.1.next HN.out y1 y3 t2 (by omega) (Nat.le_refl _))
      clear y1 y2 y3 t2 hE2 C HPS hgo t0 t0'
      go_wp2_with fail
      go_loopw [6] (fun v wr => ∃ (k : Nat) (E : List Nat), 0 < k ∧ k ≤ 2 * N + 20 ∧ v = .int .i64 (k : Int) ∧ Runs k E 0 N ∧ St w g N D wr E) (fun v _ => 2 * N + 40 - (intOf v).toNat)
      case atStart => exact ⟨20, E2, by omega, by omega, rfl, HR2.out, HS2.out⟩
      case round =>
        obtain ⟨k, E, hk0, hkN, rfl, hR, hS⟩ := hrel
        by_cases hlt : k < N
        · have t0 : decide (k < N) = true := by rw [decide_eq_true_eq]; omega
          have t0' : decide ((k : Int) < (N : Int)) = true := by rw [decide_eq_true_eq]; omega
          obtain ⟨K, hK⟩ : ∃ K, K = 2 * k := ⟨_, rfl⟩
          have hKI : 2 * (k : Int) = ((K : Nat) : Int) := by omega
          have hKI2 : (k : Int) * 2 = ((K : Nat) : Int) := by omega
          have hK1 : k < K := by omega
          have hK2 : K ≤ 2 * N := by omega
          have HK := Lib.hid hK
          have HRS := Lib.hid (And.intro hR hS)
          clear hR hS hK
          go_wp2_with fail
          go_loopw [7, 8] (fun i j wr => ∃ (a b : Nat) (E : List Nat), a ≤ N ∧ b = a + K ∧ i = .int .i64 (a : Int) ∧ j = .int .i64 (b : Int) ∧ Pre K E a ∧ Runs k E a N ∧ St w g N D wr E) (fun i j _ => N - (intOf i).toNat)
          case atStart => exact ⟨0, K, E, Nat.zero_le _, by omega, rfl, rfl, Pre.zero, HRS.out.1, HRS.out.2⟩
          case round =>
            obtain ⟨a, b, E3, haN, hb, rfl, rfl, hP, hR, hS⟩ := hrel
            obtain ⟨m, hm⟩ : ∃ m, m = a + k := ⟨_, rfl⟩
            have hmI : (a : Int) + (k : Int) = ((m : Nat) : Int) := by omega
            have ham : a < m := by omega
            have hmb : m < b := by omega
            have hb2 : b ≤ 3 * N := by omega
            have hkk := HK.out
            have hl := hS.len HN.out
            by_cases hgo : b ≤ N
            · have t1 : decide (b ≤ N) = true := by rw [decide_eq_true_eq]; omega
              have t1' : decide ((b : Int) ≤ (N : Int)) = true := by rw [decide_eq_true_eq]; omega
              have C := Lib.hid (MRG.out a m b E3 _ hS ham hmb hgo (by rw [hm]; exact hR.first.mono (Nat.le_refl _) (by omega)) (by rw [hm]; exact hR.next.first.mono (Nat.le_refl _) (by omega)))
              have HPS := Lib.hid (And.intro hP (And.intro hR (And.intro hS (And.intro hb (And.intro hm hl)))))
              clear hP hR hS hb hm hl hkk
              go_wp2_with fail
              refine C.out.mono ?_
              rintro _ w4 ⟨rfl, hY, t4⟩
              have HY := Lib.hid (And.intro hY t4)
              clear hY t4
              go_wp2_with fail
              go_roundw
              case rel =>
                obtain ⟨⟨Y, y1, y2, y3⟩, t4⟩ := HY.out
                obtain ⟨hP, hR, hS, hb, hm, hl⟩ := HPS.out
                have hkk := HK.out
                have hYl : Y.length = b - a := by rw [y1.length_eq, sg_len (by omega) (by omega)]
                refine ⟨b, b + K, putL E3 a b Y, hgo, rfl, rfl, by go_num, ?_, ?_, hS.next HN.out y1 y3 t4 (by omega) hgo⟩
                · have := (hP.put hYl (by omega) (by omega)).next (by rw [← hb]; exact put_ord hYl (by omega) (by omega) y2)
                  rw [← hb] at this; exact this
                · have := hR.next.next
                  rw [show a + k + k = b by omega] at this
                  exact this.put hYl (by omega) (by omega) (Nat.le_refl _)
              case measure => simp [intOf]; omega
            · have t1 : decide (b ≤ N) = false := by rw [decide_eq_false_iff_not]; omega
              have t1' : decide ((b : Int) ≤ (N : Int)) = false := by rw [decide_eq_false_iff_not]; omega
              by_cases hmN : m < N
              · have t2 : decide (m < N) = true := by rw [decide_eq_true_eq]; omega
                have t2' : decide ((m : Int) < (N : Int)) = true := by rw [decide_eq_true_eq]; omega
                have C := Lib.hid (MRG.out a m N E3 _ hS ham hmN (Nat.le_refl _) (by rw [hm]; exact hR.first.mono (Nat.le_refl _) (by omega)) (by rw [hm]; exact hR.next.first.mono (Nat.le_refl _) (by omega)))
                have HPS := Lib.hid (And.intro hP (And.intro hR (And.intro hS (And.intro hb (And.intro hm hl)))))
                clear hP hR hS hb hm hl hkk
                go_wp2_with fail
                refine C.out.mono ?_
                rintro _ w4 ⟨rfl, hY, t4⟩
                have HY := Lib.hid (And.intro hY t4)
                clear hY t4
                go_wp2_with fail
                go_roundw
                case rel =>
                  obtain ⟨⟨Y, y1, y2, y3⟩, t4⟩ := HY.out
                  obtain ⟨hP, hR, hS, hb, hm, hl⟩ := HPS.out
                  have hkk := HK.out
                  have hYl : Y.length = N - a := by rw [y1.length_eq, sg_len (by omega) (by omega)]
                  exact ⟨K, putL E3 a N Y, by omega, by omega, rfl, (hP.put hYl (by omega) (by omega)).done (put_ord hYl (by omega) (by omega) y2) (by omega), hS.next HN.out y1 y3 t4 (by omega) (Nat.le_refl _)⟩
                case measure => simp [intOf]; omega
              · have t2 : decide (m < N) = false := by rw [decide_eq_false_iff_not]; omega
                have t2' : decide ((m : Int) < (N : Int)) = false := by rw [decide_eq_false_iff_not]; omega
                have HPS := Lib.hid (And.intro hP (And.intro hR (And.intro hS (And.intro hb (And.intro hm hl)))))
                clear hP hR hS hb hm hl hkk
                go_wp2_with fail
                go_roundw
                case rel =>
                  obtain ⟨hP, hR, hS, hb, hm, hl⟩ := HPS.out
                  have hkk := HK.out
                  exact ⟨K, E3, by omega, by omega, rfl, hP.done (hR.first.mono (Nat.le_refl _) (by omega)) (by omega), hS⟩
                case measure => simp [intOf]; omega
        · have t0 : decide (k < N) = false := by rw [decide_eq_false_iff_not]; omega
          have t0' : decide ((k : Int) < (N : Int)) = false := by rw [decide_eq_false_iff_not]; omega
          have HRS := Lib.hid (And.intro hR hS)
          clear hR hS
          go_wp2
          go_end0
          obtain ⟨hR, hS⟩ := HRS.out
          have hl := hS.len HN.out
          exact ⟨rfl, ⟨E, hS.p, ord_srt (by rw [hl]; exact hR.first.mono (Nat.le_refl _) (by omega)), hS.f⟩, hS.t⟩
end Go.Proofs.Ytbnplhdelpbfdaa
