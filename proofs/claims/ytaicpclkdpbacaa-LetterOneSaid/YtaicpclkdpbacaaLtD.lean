/- The document's side of letters: in, num, yes, Great, Right, Same. -/
import Derived.Test.YtaicpclkdpbacaaLtAX
set_option linter.unusedVariables false
set_option linter.unusedSimpArgs false
namespace Go.Proofs.Ytaicpclkdpbacaa
open Go.RowKit
def mostL : Int := 1099511627776
def inP (n : Int) : Prop := 0 ≤ n ∧ n ≤ 1099511627776
instance (n : Int) : Decidable (inP n) := by unfold inP; infer_instance
theorem in_any (n : Int) (w : World) : Calls Try.prog 24 #[.int .i64 n] w fun r w' => r = .returned (.bool (decide (inP n))) ∧ w' = w := by
  have H := Lib.hid (show decide (inP n) = (decide (0 ≤ n) && decide (n ≤ 1099511627776)) by rw [Bool.eq_iff_iff]; simp only [Bool.and_eq_true, decide_eq_true_eq]; exact Iff.rfl)
  generalize decide (inP n) = r at *
  by_cases h0 : 0 ≤ n
  · have HR := Lib.hid (show decide (n ≤ 1099511627776) = r by rw [H.out]; simp [h0])
    clear H
    go_enter Try.func24, Try.ntmps24
    go_wp2
    go_ret
    exact ⟨ret_bool HR.out, rfl⟩
  · have HR := Lib.hid (show false = r by rw [H.out]; simp [h0])
    clear H
    go_enter Try.func24, Try.ntmps24
    go_wp2
    go_ret
    exact ⟨ret_bool HR.out, rfl⟩
theorem lnum_any (n : Nat) (w : World) (hn : n ≤ 1099511627776) :
    Calls Try.prog 30 #[.int .i64 (n : Int)] w fun e w' => ∃ v, e = .returned v ∧ w'.ownsRow w.heap.size 5 1 v (numB n).length ((numB n).map bv) ∧ Turn (fun _ => False) w w' := by
  have T := Lib.hid (rnum_any n w (by omega))
  go_enter Try.func30, Try.ntmps30
  go_wp2_with (go_at_call 53; refine T.out.mono ?_; rintro r w1 ⟨v, rfl, ho, ht⟩; have HO := Lib.hid ho; have HT := Lib.hid ht; clear ho ht)
  go_ret
  exact ⟨v, rfl, HO.out, HT.out⟩
def yesN (s : Bool) : Nat := if s then 1 else 0
theorem lyes_any (s : Bool) (w : World) :
    Calls Try.prog 31 #[.bool s] w fun e w' => ∃ v, e = .returned v ∧ w'.ownsRow w.heap.size 5 1 v (numB (yesN s)).length ((numB (yesN s)).map bv) ∧ Turn (fun _ => False) w w' := by
  cases s
  · have T := Lib.hid (lnum_any 0 w (by omega))
    go_enter Try.func31, Try.ntmps31
    go_wp2_with (go_at_call 30; refine T.out.mono ?_; rintro r w1 ⟨v, rfl, ho, ht⟩; have HO := Lib.hid ho; have HT := Lib.hid ht; clear ho ht)
    go_ret
    exact ⟨v, rfl, HO.out, HT.out⟩
  · have T := Lib.hid (lnum_any 1 w (by omega))
    go_enter Try.func31, Try.ntmps31
    go_wp2_with (go_at_call 30; refine T.out.mono ?_; rintro r w1 ⟨v, rfl, ho, ht⟩; have HO := Lib.hid ho; have HT := Lib.hid ht; clear ho ht)
    go_ret
    exact ⟨v, rfl, HO.out, HT.out⟩
/-- Great. -/
def greI (p : Itm) : Bool := decide (200 < p.b.length)
def greL (l : Ltr) : Bool := (l.its.take 20).any greI || (decide (20 < l.its.length) || decide (300 < l.b.length))
theorem great_any (A S : Option Addr) (cA cS : Nat) (N : Nat → Prop) (l : Ltr) (w : World) (h : LtN w N A cA S cS l) :
    Calls Try.prog 7 #[ltV A cA S cS l] w fun e w' => e = .returned (.bool (greL l)) ∧ Turn (fun _ => False) w w' := by
  obtain ⟨w0, hw0⟩ : ∃ w0, w0 = w.alloc (.cells (ltC A cA S cS l) 25) := ⟨_, rfl⟩
  have hT0 : Turn (fun _ => False) w w0 := by rw [hw0]; exact (Turn.refl _ _).alloc _
  have hg0 : LBx w0 w.heap.size A cA S cS l := by rw [hw0]; exact LBx.new _ _ _ _ _ _
  have H0 := Lib.hid (h.quiet hT0)
  have HT0 := Lib.hid hT0
  have him := h.im
  have hbm := h.bm
  unfold maxLen at him hbm
  obtain ⟨c0, c1, c2, c3, c4, c5, c6, c7⟩ := hg0.cells
  have HL := Lib.hid (show greL l = ((l.its.take 20).any greI || (decide (20 < l.its.length) || decide (300 < l.b.length))) from rfl)
  generalize greL l = R at *
  clear h hT0 hg0 c0 c1 c2 c3 c4 c5
  go_enter Try.func7, Try.ntmps7
  go_upto_region 1 with fail
  change Code.wp _ _ _ _ (w.alloc (.cells (ltC A cA S cS l) 25))
  rw [← hw0]
  clear hw0
  go_wp2
  go_loop [3] (fun i => ∃ k : Nat, k ≤ l.its.length ∧ k ≤ 20 ∧ i = .int .i64 k ∧ (l.its.take k).any greI = false) (fun i => l.its.length - (intOf i).toNat)
  case atStart => exact ⟨0, Nat.zero_le _, by omega, rfl, rfl⟩
  case round =>
    obtain ⟨k, hk, hk20, rfl, ha⟩ := hrel
    by_cases hlt : k < l.its.length
    · by_cases h20 : k < 20
      · obtain ⟨hok, b, o, S', cp, hA, -, hsp, i0, i1⟩ := H0.out.its k l.its[k] (List.getElem?_eq_getElem hlt)
        subst hA
        have HN := Lib.hid (fun (h1 : (l.its[k]).b.length ≤ 200) => show (l.its.take (k + 1)).any greI = false by
          rw [List.take_succ_eq_append_getElem hlt, List.any_append, ha]; simp [greI]; omega)
        have HY := Lib.hid (fun (h1 : 200 < (l.its[k]).b.length) => show true = R by
          rw [HL.out]; symm
          rw [Bool.or_eq_true]; left
          rw [List.any_eq_true]
          exact ⟨l.its[k], by rw [List.mem_take_iff_getElem]; exact ⟨k, by omega, rfl⟩, by simp [greI]; omega⟩)
        have hm := hok.m
        unfold maxLen at hm
        clear hok hsp ha
        generalize (l.its[k]).b.length = n at *
        by_cases h1 : n ≤ 200
        · have HR := Lib.hid (HN.out h1)
          go_wp2
          go_round
          case rel => exact ⟨k + 1, by omega, by omega, by go_num, HR.out⟩
          case measure => simp [intOf]; omega
        · have HR := Lib.hid (HY.out (by omega))
          go_wp2
          go_ret
          exact ⟨ret_bool HR.out, HT0.out⟩
      · obtain rfl : k = 20 := by omega
        have HR := Lib.hid (show (decide (20 < l.its.length) || decide (300 < l.b.length)) = R by rw [HL.out, ha, Bool.false_or])
        clear ha
        have d1 : decide (20 < l.its.length) = decide ((20 : Int) < (l.its.length : Int)) := by rw [decide_eq_decide]; omega
        have d2 : decide (300 < l.b.length) = decide ((300 : Int) < (l.b.length : Int)) := by rw [decide_eq_decide]; omega
        rw [d1, d2] at HR
        clear d1 d2
        go_wp2
        all_goals
          go_ret
          exact ⟨ret_bool (by rw [← HR.out]; simp; try omega), HT0.out⟩
    · obtain rfl : k = l.its.length := by omega
      have h0 : l.its.any greI = false := by rw [List.take_length] at ha; exact ha
      have HR := Lib.hid (show (decide ((20 : Int) < (l.its.length : Int)) || decide ((300 : Int) < (l.b.length : Int))) = R by
        rw [HL.out, List.take_of_length_le hk20, h0, Bool.false_or, decide_eq_false (show ¬ 20 < l.its.length by omega), decide_eq_false (show ¬ (20 : Int) < (l.its.length : Int) by omega), Bool.false_or, Bool.false_or, decide_eq_decide]; omega)
      clear ha h0
      go_wp2
      all_goals
        go_ret
        exact ⟨ret_bool HR.out, HT0.out⟩
end Go.Proofs.Ytaicpclkdpbacaa
