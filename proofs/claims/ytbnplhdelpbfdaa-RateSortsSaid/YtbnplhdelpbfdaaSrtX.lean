/- Rates held against each other; the best one; the middle one. -/
import Derived.Test.YtbnplhdelpbfdaaSrtV
set_option linter.unusedVariables false
set_option linter.unusedSimpArgs false
namespace Go.Proofs.Ytbnplhdelpbfdaa
open Go.RowKit
open Flt (nan key lessB cmpI S)
/-- A list of rates that came in. -/
structure Rs (w : World) (A : Option Addr) (c n : Nat) (l : List Nat) : Prop where
  s : Sl w w.heap.size A (l.map fv)
  a : A = none → c = 0
  c : l.length ≤ c
  n : l.length = n
  wf : Wf l
theorem Rs.cell {w : World} {A : Option Addr} {c n : Nat} {l : List Nat} (h : Rs w A c n l) {k : Nat} (hk : k < n) : ∃ ad, A = some ad ∧ w.cell? (ad.add k) = some (.float .f64 (gd l k)) := by
  obtain ⟨ad, e, -, hc⟩ := h.s k (.float .f64 (gd l k)) (by rw [List.getElem?_map, gd_some (by rw [h.n]; exact hk)]; rfl)
  exact ⟨ad, e, hc⟩
theorem Rs.turn {w w' : World} {A : Option Addr} {c n : Nat} {l : List Nat} (h : Rs w A c n l) (t : Turn (fun _ => False) w w') : Rs w' A c n l := ⟨(t.sl h.s (fun _ _ h => h)).more t.size, h.a, h.c, h.n, h.wf⟩
theorem key_nan (a : Nat) : key a = 0 ↔ nan a := by unfold key; split <;> simp_all; split <;> omega
theorem key_inj {a b : Nat} (wa : a < 18446744073709551616) (wb : b < 18446744073709551616) (h : key a = key b) (hn : ¬ nan a) : a = b := by
  have hb : ¬ nan b := fun hb => hn ((key_nan a).1 (by rw [h]; exact (key_nan b).2 hb))
  unfold key at h
  rw [if_neg hn, if_neg hb] at h
  unfold S at h
  split at h <;> split at h <;> omega
set_option maxRecDepth 100000 in
theorem same_any (a b : Nat) (w : World) (wa : a < 18446744073709551616) (wb : b < 18446744073709551616) :
    Calls Try.prog 7 #[.float .f64 a, .float .f64 b] w fun e w' => e = .returned (.bool (decide (key a = key b))) ∧ w = w' := by
  have hb := bits_run
  have ha1 := nan_test a
  have hb1 := nan_test b
  by_cases hab : a = b
  · subst hab
    have t0 : ((a : Int) == (a : Int)) = true := by simp
    clear ha1 hb1 wa wb
    go_enter Try.func7, Try.ntmps7
    go_wp2
    go_ret
    exact ⟨ret_bool (by simp), rfl⟩
  · have t0 : ((a : Int) == (b : Int)) = false := by rw [beq_eq_false_iff_ne]; omega
    by_cases na : nan a
    · by_cases nb : nan b
      · have E := Lib.hid (show decide (key a = key b) = true by rw [decide_eq_true_eq, (key_nan a).2 na, (key_nan b).2 nb])
        rw [show decide (nan a) = true by simp [na]] at ha1
        rw [show decide (nan b) = true by simp [nb]] at hb1
        clear na nb wa wb hab
        go_enter Try.func7, Try.ntmps7
        go_wp2
        go_ret
        exact ⟨ret_bool E.out.symm, rfl⟩
      · have E := Lib.hid (show decide (key a = key b) = false by rw [decide_eq_false_iff_not, (key_nan a).2 na]; exact fun h => nb ((key_nan b).1 h.symm))
        rw [show decide (nan a) = true by simp [na]] at ha1
        rw [show decide (nan b) = false by simp [nb]] at hb1
        clear na nb wa wb hab
        go_enter Try.func7, Try.ntmps7
        go_wp2
        go_ret
        exact ⟨ret_bool E.out.symm, rfl⟩
    · have E := Lib.hid (show decide (key a = key b) = false by rw [decide_eq_false_iff_not]; exact fun h => hab (key_inj wa wb h na))
      rw [show decide (nan a) = false by simp [na]] at ha1
      clear na wa wb hab hb1
      go_enter Try.func7, Try.ntmps7
      go_wp2
      go_ret
      exact ⟨ret_bool E.out.symm, rfl⟩
def BestAt (l : List Nat) (b : Nat) : Prop := (∀ i, i < l.length → key (gd l i) ≤ key (gd l b)) ∧ ∀ i, i < b → key (gd l i) < key (gd l b)
set_option maxRecDepth 100000 in
theorem best_any (A : Option Addr) (c n : Nat) (l : List Nat) (w : World) (h : Rs w A c n l) (hn : n ≤ 1000) (h0 : 0 < n) :
    Calls Try.prog 8 #[.slice A n c] w fun e w' => (∃ b : Nat, b < n ∧ BestAt l b ∧ e = .returned (.tuple #[.int .i64 (b : Int), .bool true])) ∧ w = w' := by
  have H := Lib.hid h
  have tz : ((n : Int) == 0) = false := by rw [beq_eq_false_iff_ne]; omega
  clear h
  go_enter Try.func8, Try.ntmps8
  go_wp2_with fail
  go_loop [4, 12] (fun x i => ∃ b k : Nat, k ≤ n ∧ b < n ∧ i = .int .i64 (k : Int) ∧ x = .int .i64 (b : Int) ∧ (∀ i, i < k → key (gd l i) ≤ key (gd l b)) ∧ (∀ i, i < b → key (gd l i) < key (gd l b)) ∧ b ≤ k) (fun _ i => n - (intOf i).toNat)
  case atStart => exact ⟨0, 0, Nat.zero_le _, h0, rfl, rfl, (fun i h => by omega), (fun i h => by omega), Nat.le_refl _⟩
  case round =>
    obtain ⟨b, k, hk, hb, rfl, rfl, h1, h2, hbk⟩ := hrel
    by_cases hlt : k < n
    · have t0 : decide ((k : Int) < (n : Int)) = true := by rw [decide_eq_true_eq]; omega
      obtain ⟨ad, hA, ck⟩ := H.out.cell hlt
      obtain ⟨ad', hA', cb⟩ := H.out.cell hb
      rw [hA] at hA'
      injection hA' with hA'
      subst hA'
      subst hA
      obtain ⟨x, hx⟩ : ∃ x, x = gd l k := ⟨_, rfl⟩
      obtain ⟨y, hy⟩ : ∃ y, y = gd l b := ⟨_, rfl⟩
      rw [← hx] at ck
      rw [← hy] at cb
      have LS := Lib.hid (fun w => less_any y x w (by rw [hy]; exact H.out.wf.gd (by rw [H.out.n]; exact hb)) (by rw [hx]; exact H.out.wf.gd (by rw [H.out.n]; exact hlt)))
      have HI := Lib.hid (And.intro h1 (And.intro h2 (And.intro hx hy)))
      by_cases hl : key y < key x
      · have e1 : lessB y x = true := by simp [lessB, hl]
        have HL := Lib.hid hl
        clear h1 h2 hx hy hl
        go_wp2_with (go_at_call 17; refine (LS.out _).mono ?_; rintro e w' ⟨rfl, rfl⟩)
        go_round
        case rel =>
          obtain ⟨h1, h2, hx, hy⟩ := HI.out
          have hl := HL.out
          refine ⟨k, k + 1, by omega, hlt, by go_num, rfl, fun i hi => ?_, fun i hi => ?_, by omega⟩
          · rcases Nat.lt_or_ge i k with h | h
            · have := h1 i h; rw [← hx]; rw [← hy] at this; omega
            · obtain rfl : i = k := by omega
              exact Nat.le_refl _
          · have := h1 i hi; rw [← hx]; rw [← hy] at this; omega
        case measure => simp [intOf]; omega
      · have e1 : lessB y x = false := by simp [lessB]; omega
        have HL := Lib.hid (show key x ≤ key y by omega)
        clear h1 h2 hx hy hl
        go_wp2_with (go_at_call 17; refine (LS.out _).mono ?_; rintro e w' ⟨rfl, rfl⟩)
        go_round
        case rel =>
          obtain ⟨h1, h2, hx, hy⟩ := HI.out
          have hl := HL.out
          refine ⟨b, k + 1, by omega, hb, by go_num, rfl, fun i hi => ?_, h2, by omega⟩
          rcases Nat.lt_or_ge i k with h | h
          · exact h1 i h
          · obtain rfl : i = k := by omega
            rw [← hx, ← hy]; exact hl
        case measure => simp [intOf]; omega
    · obtain rfl : k = n := by omega
      have t0 : decide ((k : Int) < (k : Int)) = false := by rw [decide_eq_false_iff_not]; omega
      have HI := Lib.hid (And.intro h1 h2)
      clear h1 h2
      go_wp2
      go_ret2
      exact ⟨⟨b, hb, ⟨fun i hi => HI.out.1 i (by rw [← H.out.n]; exact hi), HI.out.2⟩, rfl⟩, rfl⟩
end Go.Proofs.Ytbnplhdelpbfdaa
