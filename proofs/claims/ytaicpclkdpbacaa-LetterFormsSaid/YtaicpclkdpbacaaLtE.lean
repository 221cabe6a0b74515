/- The document's Right of letters. -/
import Derived.Test.YtaicpclkdpbacaaLtD
set_option linter.unusedVariables false
set_option linter.unusedSimpArgs false
namespace Go.Proofs.Ytaicpclkdpbacaa
open Go.RowKit
def okI (p : Itm) : Bool := decide (inP p.t) && decide (p.b.length ≤ 8192)
def hdB (l : Ltr) : Bool := decide (1 ≤ l.k) && (decide (l.k ≤ 5) && (decide (inP l.t) && (decide (inP l.x) && (decide (inP l.y) && (decide (inP l.z) && (decide (l.its.length ≤ 16) && decide (l.b.length ≤ 65536)))))))
def usB (l : Ltr) : Bool := decide ((l.k = 2 → l.x = 0) ∧ (l.k = 2 ∨ l.k = 4 → l.y = 0) ∧ (l.k ≠ 3 ∧ l.k ≠ 4 → l.z = 0) ∧ (l.k ≠ 2 ∧ l.k ≠ 4 → l.s = false) ∧ (l.k ≠ 3 → l.its.length = 0) ∧ (l.k ≠ 5 → l.b.length = 0))
def okL (l : Ltr) : Bool := hdB l && (l.its.all okI && usB l)
theorem in_yes (n : Int) (w : World) (h : inP n) : Calls Try.prog 24 #[.int .i64 n] w fun r w' => r = .returned (.bool true) ∧ w' = w := by
  have := in_any n w
  rwa [decide_eq_true h] at this
theorem in_no (n : Int) (w : World) (h : ¬ inP n) : Calls Try.prog 24 #[.int .i64 n] w fun r w' => r = .returned (.bool false) ∧ w' = w := by
  have := in_any n w
  rwa [decide_eq_false h] at this
set_option maxRecDepth 100000 in
set_option maxHeartbeats 4000000 in
theorem rright_any (A S : Option Addr) (cA cS : Nat) (N : Nat → Prop) (l : Ltr) (w : World) (h : LtN w N A cA S cS l) :
    Calls Try.prog 10 #[ltV A cA S cS l] w fun e w' => e = .returned (.bool (okL l)) ∧ Turn (fun _ => False) w w' := by
  obtain ⟨w0, hw0⟩ : ∃ w0, w0 = w.alloc (.cells (ltC A cA S cS l) 25) := ⟨_, rfl⟩
  have hT0 : Turn (fun _ => False) w w0 := by rw [hw0]; exact (Turn.refl _ _).alloc _
  have hg0 : LBx w0 w.heap.size A cA S cS l := by rw [hw0]; exact LBx.new _ _ _ _ _ _
  have H0 := Lib.hid (h.quiet hT0)
  have HT0 := Lib.hid hT0
  have him := h.im
  have hbm := h.bm
  unfold maxLen at him hbm
  obtain ⟨c0, c1, c2, c3, c4, c5, c6, c7⟩ := hg0.cells
  have I := Lib.hid in_any
  have HL := Lib.hid (show okL l = (hdB l && (l.its.all okI && usB l)) from rfl)
  generalize okL l = R at *
  clear h hT0 hg0
  cases hh : hdB l with
  | false =>
    have HR := Lib.hid (show false = R by rw [HL.out, hh]; rfl)
    have HX := Lib.hid (show ¬ (1 ≤ l.k ∧ l.k ≤ 5 ∧ inP l.t ∧ inP l.x ∧ inP l.y ∧ inP l.z ∧ l.its.length ≤ 16 ∧ l.b.length ≤ 65536) by
      intro hc
      have : hdB l = true := by unfold hdB; simp only [Bool.and_eq_true, decide_eq_true_eq]; exact hc
      rw [hh] at this; cases this)
    clear hh
    go_enter Try.func10, Try.ntmps10
    go_upto_region 1 with fail
    change Code.wp _ _ _ _ (w.alloc (.cells (ltC A cA S cS l) 25))
    rw [← hw0]
    clear hw0
    go_upto_region 3 with (go_at_call 24; refine (I.out _ _).mono ?_; rintro r w9 ⟨rfl, hw9⟩; rw [hw9]; clear hw9 w9)
    all_goals first
      | (go_wp2; go_ret; exact ⟨ret_bool HR.out, HT0.out⟩)
      | (exfalso; apply HX.out; refine ⟨?_, ?_, ?_, ?_, ?_, ?_, ?_, ?_⟩ <;> first | assumption | omega)
  | true =>
    have hh' := hh
    unfold hdB at hh'
    simp only [Bool.and_eq_true, decide_eq_true_eq] at hh'
    obtain ⟨k1, k5, p1, p2, p3, p4, n16, nb⟩ := hh'
    have d1 : decide (l.k < 1) = false := decide_eq_false (by omega)
    have d2 : decide (5 < l.k) = false := decide_eq_false (by omega)
    have d3 : decide (16 < (l.its.length : Int)) = false := decide_eq_false (by omega)
    have d4 : decide (65536 < (l.b.length : Int)) = false := decide_eq_false (by omega)
    have HHH := Lib.hid hh
    have I1 := Lib.hid (fun w => in_yes l.t w p1)
    have I2 := Lib.hid (fun w => in_yes l.x w p2)
    have I3 := Lib.hid (fun w => in_yes l.y w p3)
    have I4 := Lib.hid (fun w => in_yes l.z w p4)
    clear hh p1 p2 p3 p4
    go_enter Try.func10, Try.ntmps10
    go_upto_region 1 with fail
    change Code.wp _ _ _ _ (w.alloc (.cells (ltC A cA S cS l) 25))
    rw [← hw0]
    clear hw0
    go_wp2_with (go_at_call 24; (first | refine (I1.out _).mono ?_ | refine (I2.out _).mono ?_ | refine (I3.out _).mono ?_ | refine (I4.out _).mono ?_); rintro r w9 ⟨rfl, hw9⟩; rw [hw9]; clear hw9 w9)
    clear I1 I2 I3 I4
    go_loop [3] (fun i => ∃ k : Nat, k ≤ l.its.length ∧ i = .int .i64 k ∧ (l.its.take k).all okI = true) (fun i => l.its.length - (intOf i).toNat)
    case atStart => exact ⟨0, Nat.zero_le _, rfl, rfl⟩
    case round =>
      obtain ⟨k, hk, rfl, ha⟩ := hrel
      by_cases hlt : k < l.its.length
      · obtain ⟨hok, b, o, S', cp, hA, -, hsp, i0, i1⟩ := H0.out.its k l.its[k] (List.getElem?_eq_getElem hlt)
        subst hA
        have HY := Lib.hid (fun (h1 : inP (l.its[k]).t) (h2 : (l.its[k]).b.length ≤ 8192) => show (l.its.take (k + 1)).all okI = true by
          rw [List.take_succ_eq_append_getElem hlt, List.all_append, ha]; simp [okI, h1, h2])
        have HN := Lib.hid (fun (h1 : ¬ (inP (l.its[k]).t ∧ (l.its[k]).b.length ≤ 8192)) => show false = R by
          rw [HL.out]; symm
          have : l.its.all okI = false := by
            rw [List.all_eq_false]
            exact ⟨l.its[k], List.getElem_mem hlt, by simp only [okI, Bool.and_eq_true, decide_eq_true_eq]; exact h1⟩
          rw [this]; simp)
        have hm := hok.m
        unfold maxLen at hm
        clear hok hsp ha
        generalize (l.its[k]).b.length = n at *
        generalize (l.its[k]).t = t at *
        by_cases h1 : inP t
        · have I1 := Lib.hid (fun w => in_yes t w h1)
          by_cases h2 : n ≤ 8192
          · have HR := Lib.hid (HY.out h1 h2)
            clear h1
            go_wp2_with (go_at_call 24; refine (I1.out _).mono ?_; rintro r w9 ⟨rfl, hw9⟩; rw [hw9]; clear hw9 w9)
            go_round
            case rel => exact ⟨k + 1, by omega, by go_num, HR.out⟩
            case measure => simp [intOf]; omega
          · have HR := Lib.hid (HN.out (fun h => h2 h.2))
            clear h1
            go_wp2_with (go_at_call 24; refine (I1.out _).mono ?_; rintro r w9 ⟨rfl, hw9⟩; rw [hw9]; clear hw9 w9)
            go_ret
            exact ⟨ret_bool HR.out, HT0.out⟩
        · have I1 := Lib.hid (fun w => in_no t w h1)
          have HR := Lib.hid (HN.out (fun h => h1 h.1))
          clear h1
          go_wp2_with (go_at_call 24; refine (I1.out _).mono ?_; rintro r w9 ⟨rfl, hw9⟩; rw [hw9]; clear hw9 w9)
          go_ret
          exact ⟨ret_bool HR.out, HT0.out⟩
      · obtain rfl : k = l.its.length := by omega
        rw [List.take_length] at ha
        have HR := Lib.hid (show usB l = R by rw [HL.out, HHH.out, ha]; rfl)
        clear ha
        have hks : l.k = 1 ∨ l.k = 2 ∨ l.k = 3 ∨ l.k = 4 ∨ l.k = 5 := by omega
        rcases hks with hk1 | hk1 | hk1 | hk1 | hk1
        all_goals
          have HK := Lib.hid hk1
          rw [hk1] at c0
          clear hk1 k1 k5 d1 d2
          go_wp2
        all_goals
          go_ret
          refine ⟨ret_bool ?_, HT0.out⟩
          rw [← HR.out, Bool.eq_iff_iff]
          have hk1 := HK.out
          clear H0 HT0 him hbm c0 c1 c2 c3 c4 c5 c6 c7 I HL n16 nb d3 d4 HHH HR HK
          first
            | (simp [usB, hk1, *]; done)
            | (simp [usB, hk1] at *; intros; simp_all; done)
            | (simp [usB, hk1] at *; grind)
end Go.Proofs.Ytaicpclkdpbacaa
