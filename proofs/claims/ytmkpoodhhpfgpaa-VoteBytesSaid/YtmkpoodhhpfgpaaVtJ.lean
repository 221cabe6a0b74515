/- 'VoteAgreed' and 'VoteNew': their walks. -/
import Derived.Test.YtmkpoodhhpfgpaaVtI
set_option linter.unusedVariables false
set_option linter.unusedSimpArgs false
namespace Go.Proofs.Ytmkpoodhhpfgpaa
open Go.RowKit
theorem below_of {w w' : World} (t : Turn (fun _ => False) w w') : Below w.heap.size w w' := t.below (fun _ _ h => h.elim) (Nat.le_refl _)
set_option maxRecDepth 100000 in
set_option maxHeartbeats 4000000 in
theorem voteAgreed_walk (A : Option Addr) (c : Nat) (zs : List Int) (w : World) (hs : Sl w w.heap.size A (i64s zs)) (hA : A = none → c = 0) (hc : zs.length ≤ c) (hm : zs.length ≤ maxLen) :
    Calls Try.prog 4 #[.slice A zs.length c] w fun r w' => r = .returned (.bool true) ∧ Below w.heap.size w w' := by
  have AW := Lib.hid (fun w => (awake16_any w).mono fun _ _ ⟨h1, h2⟩ => And.intro h1 (below_of h2))
  have AG := Lib.hid (agreed_any A c zs w hs hm)
  have RG := Lib.hid (fun (w' : World) (k : Below w.heap.size w w') => ragreed_any A c zs w' (fun j u hu => by
    obtain ⟨ad, e, hb, hcc⟩ := hs j u hu
    exact ⟨ad, e, Nat.lt_of_lt_of_le hb k.size, (k.cell (p := ad.add j) (by rw [add_block]; exact hb)).trans hcc⟩) hm)
  unfold maxLen at hm
  generalize agV zs = v at *
  generalize agO zs = o at *
  generalize zs.length = n at *
  by_cases h1 : 50 < n
  · have t0 : decide (50 < (n : Int)) = true := by rw [decide_eq_true_eq]; omega
    clear h1 hs hA hc
    go_enter Try.func4, Try.ntmps4
    go_wp2_with (go_at_call 16; refine (AW.out _).mono ?_; rintro r w9 ⟨rfl, t9⟩)
    go_ret
    exact ⟨rfl, t9⟩
  have t0 : decide (50 < (n : Int)) = false := by rw [decide_eq_false_iff_not]; omega
  clear h1 hs hA hc
  go_enter Try.func4, Try.ntmps4
  go_wp2_with (go_at_call 17; refine stop ?_)
  unfold Stop
  refine AG.out.mono ?_
  rintro r w1 ⟨rfl, k1⟩
  have K1 := Lib.hid k1
  clear k1
  go_wp2_with (go_at_call 18; refine stop ?_)
  unfold Stop
  refine (RG.out w1 K1.out).mono ?_
  rintro r w2 ⟨rfl, k2⟩
  have K2 := Lib.hid (K1.out.trans (k2.mono K1.out.size))
  clear k2
  go_wp2_with (go_at_call 16; refine stop ?_)
  unfold Stop
  refine (AW.out w2).mono ?_
  rintro r w3 ⟨rfl, k3⟩
  have K3 := Lib.hid (K2.out.trans (k3.mono K2.out.size))
  clear k3
  go_wp2
  go_ret
  exact ⟨rfl, K3.out⟩
theorem asN_total (a t b u : Int) : asN a t b u = true ∨ asN b u a t = true := by
  unfold asN
  by_cases h : t = u
  · subst h; rw [if_pos rfl, if_pos rfl]; simp only [decide_eq_true_eq]; omega
  · rw [if_neg h, if_neg (fun e => h e.symm)]; simp only [decide_eq_true_eq]; omega
theorem asN_both {a t b u : Int} (h1 : asN a t b u = true) (h2 : asN b u a t = true) : a = b ∧ t = u := by
  unfold asN at h1 h2
  by_cases h : t = u
  · subst h; rw [if_pos rfl] at h1 h2; simp only [decide_eq_true_eq] at h1 h2; exact ⟨by omega, rfl⟩
  · rw [if_neg h] at h1; rw [if_neg (fun e => h e.symm)] at h2; simp only [decide_eq_true_eq] at h1 h2; omega
theorem asN_trans {a t b u c v : Int} (h1 : asN a t b u = true) (h2 : asN b u c v = true) : asN a t c v = true := by
  unfold asN at *
  by_cases p : t = u
  · rw [if_pos p] at h1
    by_cases q : u = v
    · rw [if_pos q] at h2; rw [if_pos (p.trans q)]; simp only [decide_eq_true_eq] at *; omega
    · rw [if_neg q] at h2; rw [if_neg (fun e => q (p.symm.trans e))]; simp only [decide_eq_true_eq] at *; omega
  · rw [if_neg p] at h1
    by_cases q : u = v
    · rw [if_pos q] at h2; rw [if_neg (fun e => p (e.trans q.symm))]; simp only [decide_eq_true_eq] at *; omega
    · rw [if_neg q] at h2
      simp only [decide_eq_true_eq] at h1 h2
      rw [if_neg (by omega)]; simp only [decide_eq_true_eq]; omega
set_option maxRecDepth 100000 in
set_option maxHeartbeats 4000000 in
theorem voteNew_walk (a t b u c v : Int) (w : World) :
    Calls Try.prog 8 #[.int .i64 a, .int .i64 t, .int .i64 b, .int .i64 u, .int .i64 c, .int .i64 v] w fun r w' => r = .returned (.bool true) ∧ Below w.heap.size w w' := by
  have AW := Lib.hid (fun w => (awake16_any w).mono fun _ _ ⟨h1, h2⟩ => And.intro h1 (below_of h2))
  have C1 := asnew_any a t b u
  have C2 := asnew_any b u a t
  have C3 := asnew_any b u c v
  have C4 := asnew_any a t c v
  have h0 := asN_total a t b u
  have h1 := @asN_both a t b u
  have h2 := @asN_trans a t b u c v
  generalize asN a t b u = x at *
  generalize asN b u a t = y at *
  generalize asN b u c v = z at *
  generalize asN a t c v = q at *
  have C1 := Lib.hid C1
  have C2 := Lib.hid C2
  have C3 := Lib.hid C3
  have C4 := Lib.hid C4
  go_enter Try.func8, Try.ntmps8
  go_wp2_with (go_at_call 14; refine stop ?_)
  unfold Stop
  refine (C1.out w).mono ?_
  rintro r w9 ⟨rfl, hw9⟩; rw [hw9]; clear hw9 w9
  go_wp2_with (go_at_call 14; refine stop ?_)
  unfold Stop
  refine (C2.out w).mono ?_
  rintro r w9 ⟨rfl, hw9⟩; rw [hw9]; clear hw9 w9
  cases x with
  | false =>
    have hy : y = true := by simpa using h0
    subst hy
    clear h0 h1 h2
    go_wp2_with (go_at_call 16; refine stop ?_)
    unfold Stop
    refine (AW.out w).mono ?_
    rintro r w3 ⟨rfl, k3⟩
    have K3 := Lib.hid k3
    clear k3
    go_wp2
    go_ret
    exact ⟨rfl, K3.out⟩
  | true =>
  cases y with
  | false =>
    clear h0 h1
    go_wp2_with (go_at_call 14; refine stop ?_)
    unfold Stop
    refine (C3.out w).mono ?_
    rintro r w9 ⟨rfl, hw9⟩; rw [hw9]; clear hw9 w9
    cases z with
    | false =>
      go_wp2_with (go_at_call 16; refine stop ?_)
      unfold Stop
      refine (AW.out w).mono ?_
      rintro r w3 ⟨rfl, k3⟩
      have K3 := Lib.hid k3
      clear k3
      go_wp2
      go_ret
      exact ⟨rfl, K3.out⟩
    | true =>
      have hq : q = true := h2 (by trivial) (by trivial)
      subst hq
      go_wp2_with (go_at_call 14; refine stop ?_)
      unfold Stop
      refine (C4.out w).mono ?_
      rintro r w9 ⟨rfl, hw9⟩; rw [hw9]; clear hw9 w9
      go_wp2_with (go_at_call 16; refine stop ?_)
      unfold Stop
      refine (AW.out w).mono ?_
      rintro r w3 ⟨rfl, k3⟩
      have K3 := Lib.hid k3
      clear k3
      go_wp2
      go_ret
      exact ⟨rfl, K3.out⟩
  | true =>
    obtain ⟨hab, htu⟩ := h1 (by trivial) (by trivial)
    have q1 : (a != b) = false := by simpa using hab
    have q2 : (t != u) = false := by simpa using htu
    clear h0 h1 hab htu
    go_wp2_with (go_at_call 14; refine stop ?_)
    unfold Stop
    refine (C3.out w).mono ?_
    rintro r w9 ⟨rfl, hw9⟩; rw [hw9]; clear hw9 w9
    cases z with
    | false =>
      go_wp2_with (go_at_call 16; refine stop ?_)
      unfold Stop
      refine (AW.out w).mono ?_
      rintro r w3 ⟨rfl, k3⟩
      have K3 := Lib.hid k3
      clear k3
      go_wp2
      go_ret
      exact ⟨rfl, K3.out⟩
    | true =>
      have hq : q = true := h2 (by trivial) (by trivial)
      subst hq
      go_wp2_with (go_at_call 14; refine stop ?_)
      unfold Stop
      refine (C4.out w).mono ?_
      rintro r w9 ⟨rfl, hw9⟩; rw [hw9]; clear hw9 w9
      go_wp2_with (go_at_call 16; refine stop ?_)
      unfold Stop
      refine (AW.out w).mono ?_
      rintro r w3 ⟨rfl, k3⟩
      have K3 := Lib.hid k3
      clear k3
      go_wp2
      go_ret
      exact ⟨rfl, K3.out⟩
end Go.Proofs.Ytmkpoodhhpfgpaa
