/- The contract of 'within'. -/
import Derived.Test.YteaoaabjdgdcmaaTxD
set_option linter.unusedVariables false
set_option linter.unusedSimpArgs false
namespace Go.Proofs.Yteaoaabjdgdcmaa
open Go.RowKit
def cntB (t : Ptx) : Prop := 1 ≤ t.ins.length ∧ t.ins.length ≤ 16 ∧ 1 ≤ t.outs.length ∧ t.outs.length ≤ 16
set_option maxRecDepth 100000 in
theorem withinB_no1 {t : Ptx} (h : ¬ (1 ≤ t.ins.length ∧ t.ins.length ≤ 16 ∧ 1 ≤ t.outs.length ∧ t.outs.length ≤ 16 ∧ 0 ≤ t.exp ∧ t.exp ≤ 1099511627776)) : withinB t = false := by
  unfold withinB; rw [decide_eq_false h]; rfl
set_option maxRecDepth 100000 in
theorem withinB_yes1 {t : Ptx} (h : 1 ≤ t.ins.length ∧ t.ins.length ≤ 16 ∧ 1 ≤ t.outs.length ∧ t.outs.length ≤ 16 ∧ 0 ≤ t.exp ∧ t.exp ≤ 1099511627776) : withinB t = !(t.ins.any outB) := by
  unfold withinB; rw [decide_eq_true h]; rfl
set_option maxRecDepth 100000 in
theorem within_any (Ai Ao : Option Addr) (ci co B : Nat) (t : Ptx) (w : World) (h : TxAt w B Ai ci Ao co t) :
    Calls Try.prog 20 #[txV Ai ci Ao co t] w fun e w' => e = .returned (.bool (withinB t)) ∧ Turn (fun _ => False) w w' := by
  have im := h.im
  have om := h.om
  unfold maxLen at im om
  have x0 := h.x0
  have x1 := h.x1
  have HC := Lib.hid (fun w' (k : Turn (fun _ => False) w w') => outsides_any B Ai ci t.ins w' (h.ins.turn k (fun _ _ h => h)) h.im)
  by_cases hc : 1 ≤ t.ins.length ∧ t.ins.length ≤ 16 ∧ 1 ≤ t.outs.length ∧ t.outs.length ≤ 16
  · by_cases hx : 0 ≤ t.exp ∧ t.exp ≤ 1099511627776
    · have HW := Lib.hid (withinB_yes1 (t := t) ⟨hc.1, hc.2.1, hc.2.2.1, hc.2.2.2, hx.1, hx.2⟩)
      obtain ⟨h1, h2, h3, h4⟩ := hc
      obtain ⟨h5, h6⟩ := hx
      unfold txV
      generalize t.ins.length = n at *
      generalize t.outs.length = m at *
      generalize t.exp = x at *
      generalize t.fee = f at *
      generalize t.ins.any outB = ab at *
      have e1 : ¬ (n : Int) < 1 := by omega
      have e2 : ¬ (16 : Int) < (n : Int) := by omega
      have e3 : ¬ (m : Int) < 1 := by omega
      have e4 : ¬ (16 : Int) < (m : Int) := by omega
      clear h
      go_enter Try.func20, Try.ntmps20
      go_wp2_with (go_at_call 37; refine (HC.out _ ((Turn.refl _ w).alloc _)).mono ?_; rintro r w1 ⟨rfl, ht⟩; have HT := Lib.hid ht; clear ht)
      go_ret
      exact ⟨ret_bool HW.out.symm, ((Turn.refl _ w).alloc _).trans HT.out (fun _ _ h => h)⟩
    · have HW := Lib.hid (withinB_no1 (t := t) (fun k => hx ⟨k.2.2.2.2.1, k.2.2.2.2.2⟩))
      obtain ⟨h1, h2, h3, h4⟩ := hc
      have HX := Lib.hid hx
      unfold txV
      generalize t.ins.length = n at *
      generalize t.outs.length = m at *
      generalize t.exp = x at *
      generalize t.fee = f at *
      have e1 : ¬ (n : Int) < 1 := by omega
      have e2 : ¬ (16 : Int) < (n : Int) := by omega
      have e3 : ¬ (m : Int) < 1 := by omega
      have e4 : ¬ (16 : Int) < (m : Int) := by omega
      by_cases h5 : 0 ≤ x
      · have h6 : ¬ x ≤ 1099511627776 := fun k => hx ⟨h5, k⟩
        clear h hx
        go_enter Try.func20, Try.ntmps20
        go_wp2
        go_ret
        exact ⟨ret_bool HW.out.symm, ((Turn.refl _ w).alloc _)⟩
      · clear h hx
        go_enter Try.func20, Try.ntmps20
        go_wp2
        go_ret
        exact ⟨ret_bool HW.out.symm, ((Turn.refl _ w).alloc _)⟩
  · have HW := Lib.hid (withinB_no1 (t := t) (fun k => hc ⟨k.1, k.2.1, k.2.2.1, k.2.2.2.1⟩))
    have HX := Lib.hid hc
    unfold txV
    generalize t.ins.length = n at *
    generalize t.outs.length = m at *
    generalize t.exp = x at *
    generalize t.fee = f at *
    have hT : (decide ((n : Int) < 1) || decide ((16 : Int) < n) || decide ((m : Int) < 1) || decide ((16 : Int) < m)) = true := by simp; omega
    clear h hc
    go_enter Try.func20, Try.ntmps20
    go_wp2
    all_goals
      first
        | (go_ret; exact ⟨ret_bool HW.out.symm, ((Turn.refl _ w).alloc _)⟩)
        | (exfalso; have := HX.out; omega)
end Go.Proofs.Yteaoaabjdgdcmaa
