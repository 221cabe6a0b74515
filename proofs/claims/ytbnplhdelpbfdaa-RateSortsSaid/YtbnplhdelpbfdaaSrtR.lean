/- The library's stable sort at rates: two stretches that stand side by side change places. -/
import Derived.Test.YtbnplhdelpbfdaaSrtW
set_option linter.unusedVariables false
set_option linter.unusedSimpArgs false
namespace Go.Proofs.Ytbnplhdelpbfdaa
open Go.RowKit
open Flt (nan key lessB cmpI S)
set_option maxRecDepth 100000 in
set_option maxHeartbeats 4000000 in
theorem rotate_any (g c N a m b : Nat) (f : Value) (P X Y R : List Nat) (w : World) (hD : FD w g (P ++ (X ++ (Y ++ R)))) (hN : (P ++ (X ++ (Y ++ R))).length = N) (hN2 : N ≤ 1099511627776) (hX : 0 < X.length) (hY : 0 < Y.length) (ha : a = P.length) (hm : m = P.length + X.length) (hb : b = P.length + X.length + Y.length) :
    Calls Try.prog 26 #[.slice (some ⟨g, 0, none⟩) N c, .int .i64 (a : Int), .int .i64 (m : Int), .int .i64 (b : Int), f] w fun e w' => e = .returned (.tuple #[]) ∧ FD w' g (P ++ (Y ++ (X ++ R))) ∧ Turn (fun i => i = g) w w' := by
  have hbN : b ≤ N := by rw [← hN, hb]; simp; omega
  obtain ⟨T, hT⟩ : ∃ T, T = P ++ (Y ++ (X ++ R)) := ⟨_, rfl⟩
  rw [← hT]
  have hTl : T.length = N := by rw [hT, ← hN]; simp; omega
  have HD := Lib.hid hD
  have HT0 := Lib.hid hT
  have HTL := Lib.hid hTl
  have HX := Lib.hid (And.intro hX (And.intro hY (And.intro ha (And.intro hm hb))))
  have hma : (m : Int) - (a : Int) = ((X.length : Nat) : Int) := by omega
  have hbm : (b : Int) - (m : Int) = ((Y.length : Nat) : Int) := by omega
  have hmN : m ≤ N := by omega
  have haN : a ≤ N := by omega
  clear hD hT hTl hN hX hY ha hm hb
  go_enter Try.func26, Try.ntmps26
  go_wp2_with fail
  go_loopw [10, 11] (fun i j wr => ∃ P' X' Y' R' : List Nat, i = .int .i64 ((X'.length : Nat) : Int) ∧ j = .int .i64 ((Y'.length : Nat) : Int) ∧ 0 < X'.length ∧ 0 < Y'.length ∧ P'.length + X'.length = m ∧ FD wr g (P' ++ (X' ++ (Y' ++ R'))) ∧ P' ++ (Y' ++ (X' ++ R')) = T ∧ Turn (fun i => i = g) w wr) (fun i j _ => (intOf i).toNat + (intOf j).toNat)
  case atStart =>
    exact ⟨P, X, Y, R, rfl, rfl, HX.out.1, HX.out.2.1, HX.out.2.2.2.1.symm, HD.out, HT0.out.symm, Turn.refl _ _⟩
  case round =>
    obtain ⟨P', X', Y', R', rfl, rfl, hx0, hy0, hpm, hF, hTT, ht⟩ := hrel
    obtain ⟨x, hx⟩ : ∃ x, x = X'.length := ⟨_, rfl⟩
    obtain ⟨y, hy⟩ : ∃ y, y = Y'.length := ⟨_, rfl⟩
    obtain ⟨p, hp⟩ : ∃ p, p = P'.length := ⟨_, rfl⟩
    have hlen : p + x + y + R'.length = N := by rw [← HTL.out, ← hTT]; simp; omega
    have HF := Lib.hid hF
    have HT := Lib.hid ht
    have HTT := Lib.hid hTT
    have HL := Lib.hid (And.intro hx (And.intro hy hp))
    rw [← hx] at hx0 hpm ⊢
    rw [← hy] at hy0 ⊢
    rw [← hp] at hpm
    have hmx : (m : Int) - (x : Int) = ((p : Nat) : Int) := by omega
    have hN9 : N ≤ 1099511627776 := hN2
    have HPM := Lib.hid (And.intro hpm hlen)
    have i1 : p ≤ m := by omega
    have i2 : x ≤ m := by omega
    have i3 : m + y ≤ N := by omega
    clear hF ht hTT hx hy hp hpm hlen
    by_cases hne : x = y
    · subst hne
      have t0 : ((x : Int) != (x : Int)) = false := by simp
      have C := Lib.hid (swapLots_any g c N f P' X' [] Y' R' wr HF.out (by rw [← HTL.out, ← HTT.out]; simp; omega) hN2 (by have := HL.out; omega) p m x HL.out.2.2 (by have := HL.out; have := HPM.out; simp; omega) HL.out.1)
      go_wp2_with fail
      refine C.out.mono ?_
      rintro e w2 ⟨rfl, hF2, t2⟩
      have HF2 := Lib.hid hF2
      have HT2 := Lib.hid (HT.out.trans t2 (fun _ _ h => h))
      clear hF2 t2
      go_wp2
      go_end0
      exact ⟨rfl, by rw [← HTT.out]; exact HF2.out, HT2.out⟩
    · have t0 : ((x : Int) != (y : Int)) = true := by simp; omega
      by_cases hgt : y < x
      · have t1 : decide ((y : Int) < (x : Int)) = true := by rw [decide_eq_true_eq]; omega
        obtain ⟨x2, hx2⟩ : ∃ x2, x2 = x - y := ⟨_, rfl⟩
        have hxy : (x : Int) - (y : Int) = ((x2 : Nat) : Int) := by omega
        have j1 : x2 ≤ m := by omega
        have j2 : 0 < x2 := by omega
        have j3 : x2 < x := by omega
        have hX : X' = X'.take y ++ X'.drop y := (List.take_append_drop _ _).symm
        have hl1 : (X'.take y).length = y := by rw [List.length_take]; have := HL.out; omega
        have hl2 : (X'.drop y).length = x2 := by rw [List.length_drop]; have := HL.out; omega
        have e1 : P' ++ (X' ++ (Y' ++ R')) = P' ++ (X'.take y ++ (X'.drop y ++ (Y' ++ R'))) := by
          rw [← List.append_assoc (X'.take y), List.take_append_drop]
        have C := Lib.hid (swapLots_any g c N f P' (X'.take y) (X'.drop y) Y' R' wr (by rw [← e1]; exact HF.out) (by rw [← e1, ← HTL.out, ← HTT.out]; simp; omega) hN2 (by rw [hl1]; exact HL.out.2.1) p m y HL.out.2.2 (by rw [hl1, hl2, ← HL.out.2.2]; have := HPM.out; omega) hl1.symm)
        have HR := Lib.hid (And.intro hl1 (And.intro hl2 hx2))
        clear hX hl1 hl2 e1 hx2 hne hgt
        go_wp2_with fail
        refine C.out.mono ?_
        rintro e w2 ⟨rfl, hF2, t2⟩
        have HF2 := Lib.hid hF2
        have HT2 := Lib.hid (HT.out.trans t2 (fun _ _ h => h))
        clear hF2 t2
        go_wp2_with fail
        go_roundw
        case rel =>
          refine ⟨P' ++ Y', X'.drop y, X'.take y, R', by rw [HR.out.2.1], by rw [HR.out.1], by rw [HR.out.2.1]; exact j2, by rw [HR.out.1]; exact hy0, ?_, by rw [List.append_assoc]; exact HF2.out, ?_, HT2.out⟩
          · rw [List.length_append, HR.out.2.1, ← HL.out.2.1, ← HL.out.2.2]; have := HPM.out; have := HR.out.2.2; omega
          · rw [← HTT.out, List.append_assoc, ← List.append_assoc (X'.take y), List.take_append_drop]
        case measure => simp [intOf]; omega
      · have t1 : decide ((y : Int) < (x : Int)) = false := by rw [decide_eq_false_iff_not]; omega
        obtain ⟨y1, hy1⟩ : ∃ y1, y1 = y - x := ⟨_, rfl⟩
        have hyx : (y : Int) - (x : Int) = ((y1 : Nat) : Int) := by omega
        obtain ⟨q, hq⟩ : ∃ q, q = m + y1 := ⟨_, rfl⟩
        have k1 : y1 ≤ N := by omega
        have k2 : 0 < y1 := by omega
        have k3 : y1 < y := by omega
        have k4 : q ≤ N := by omega
        have hqq : (m : Int) + (y : Int) - (x : Int) = ((q : Nat) : Int) := by omega
        have hl1 : (Y'.take y1).length = y1 := by rw [List.length_take]; have := HL.out; omega
        have hl2 : (Y'.drop y1).length = x := by rw [List.length_drop]; have := HL.out; omega
        have e1 : P' ++ (X' ++ (Y' ++ R')) = P' ++ (X' ++ (Y'.take y1 ++ (Y'.drop y1 ++ R'))) := by
          rw [← List.append_assoc (Y'.take y1), List.take_append_drop]
        have C := Lib.hid (swapLots_any g c N f P' X' (Y'.take y1) (Y'.drop y1) R' wr (by rw [← e1]; exact HF.out) (by rw [← e1, ← HTL.out, ← HTT.out]; simp; omega) hN2 (by rw [hl2]; exact HL.out.1.symm) p q x HL.out.2.2 (by rw [hl1, ← HL.out.1, ← HL.out.2.2]; have := HPM.out; omega) HL.out.1)
        have HR := Lib.hid (And.intro hl1 hl2)
        clear hl1 hl2 e1 hq hy1 hne hgt
        go_wp2_with fail
        refine C.out.mono ?_
        rintro e w2 ⟨rfl, hF2, t2⟩
        have HF2 := Lib.hid hF2
        have HT2 := Lib.hid (HT.out.trans t2 (fun _ _ h => h))
        clear hF2 t2
        go_wp2_with fail
        go_roundw
        case rel =>
          refine ⟨P', Y'.drop y1, Y'.take y1, X' ++ R', by rw [HR.out.2], by rw [HR.out.1], by rw [HR.out.2]; exact hx0, by rw [HR.out.1]; exact k2, by rw [HR.out.2, ← HL.out.2.2]; exact HPM.out.1, HF2.out, ?_, HT2.out⟩
          rw [← HTT.out, ← List.append_assoc (Y'.take y1), List.take_append_drop]
        case measure => simp [intOf]; omega
end Go.Proofs.Ytbnplhdelpbfdaa
