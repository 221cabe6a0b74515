/- The contracts of the eye's 'Num' and 'Text'. -/
import Derived.Test.YtmkpoodhhpfgpaaFldD
set_option linter.unusedVariables false
namespace Go.Proofs.Ytmkpoodhhpfgpaa
open Go.RowKit
def eNum (most : Nat) (l : List B8) : Nat := if numE l ≠ 0 then numE l else if most < numV l then 5 else 0
def eText (most : Int) (l : List B8) : Nat := if numE l ≠ 0 then numE l else if most < 0 ∨ most < (numV l : Int) then 5 else if (numR l).length < numV l then 2 else 0
set_option maxRecDepth 100000 in
theorem numV_lt (l : List B8) (h : numE l = 0) : numV l < 18446744073709551616 := by
  cases l with
  | nil => simp [numV]
  | cons k r =>
    have h8 : ¬ 8 < k.toNat := by intro h1; simp [numE, h1] at h
    have h1 := valB_lt (r.take k.toNat)
    have h2 : 256 ^ (r.take k.toNat).length ≤ 256 ^ 8 := Nat.pow_le_pow_right (by decide) (by simp; omega)
    simp only [numV]
    have h3 : (256 : Nat) ^ 8 = 18446744073709551616 := by decide
    omega
set_option maxRecDepth 100000 in
theorem num_yes (e E : Nat) (N : Nat → Prop) (most : Nat) (l : List B8) (w : World) (h : Eye0 w e E N l) (hx : eNum most l = 0) :
    Calls Try.prog 47 #[.pointer (some ⟨e, 0, none⟩), .int .u64 (most : Int)] w fun r w' => r = .returned (.int .u64 (numV l : Int)) ∧ Eye0 w' e E N (numR l) ∧ Turn (fun i => i = e) w w' := by
  unfold eNum at hx
  by_cases h1 : numE l ≠ 0
  · rw [if_pos h1] at hx; exact absurd hx h1
  rw [if_neg h1] at hx
  have h2 : ¬ most < numV l := by intro h; rw [if_pos h] at hx; cases hx
  have T := Lib.hid (number_yes e E N l w h (by omega))
  have h3 : ¬ ((most : Int) < (numV l : Int)) := by omega
  clear h hx h1 h2
  generalize numV l = v at *
  go_enter Try.func47, Try.ntmps47
  go_wp2_with (go_at_call 53; refine T.out.mono ?_; rintro q w1 ⟨rfl, he1, ht1⟩; have HE1 := Lib.hid he1; have HT1 := Lib.hid ht1; clear he1 ht1)
  go_ret
  exact ⟨rfl, HE1.out, HT1.out⟩
set_option maxRecDepth 100000 in
theorem num_no (e E : Nat) (N : Nat → Prop) (most : Nat) (l : List B8) (w : World) (h : Eye0 w e E N l) (hx : eNum most l ≠ 0) :
    Calls Try.prog 47 #[.pointer (some ⟨e, 0, none⟩), .int .u64 (most : Int)] w fun r w' => r = pan E ∧ EyeX w' e E (eNum most l) ∧ Turn (fun i => i = e ∨ i = E) w w' := by
  unfold eNum at hx ⊢
  by_cases h1 : numE l ≠ 0
  · rw [if_pos h1]
    have T := Lib.hid (number_no e E N l w h h1)
    clear h hx h1
    go_enter Try.func47, Try.ntmps47
    go_wp2_with (go_at_call 53; refine T.out.mono ?_; rintro q w1 ⟨rfl, he1, ht1⟩; dsimp only [pan]; have HE1 := Lib.hid he1; have HT1 := Lib.hid ht1; clear he1 ht1)
    exact ⟨rfl, rfl, HE1.out, HT1.out⟩
  rw [if_neg h1] at hx ⊢
  by_cases h2 : most < numV l
  · rw [if_pos h2]
    have T := Lib.hid (number_yes e E N l w h (by omega))
    have T2 := Lib.hid (fun w h => fail0 e E N 5 (numR l) w h (by decide))
    have h3 : ((most : Int) < (numV l : Int)) := by omega
    clear h hx h1 h2
    generalize numV l = v at *
    go_enter Try.func47, Try.ntmps47
    go_wp2_with (first
      | (go_at_call 53; refine T.out.mono ?_; rintro q w1 ⟨rfl, he1, ht1⟩; have HE1 := Lib.hid he1; have HT1 := Lib.hid ht1; clear he1 ht1)
      | (go_at_call 54; refine (T2.out _ HE1.out).mono ?_; rintro q w2 ⟨rfl, he2, ht2⟩; dsimp only [pan]; have HE2 := Lib.hid he2; have HT2 := Lib.hid ht2; clear he2 ht2))
    exact ⟨rfl, rfl, HE2.out, HT1.out.trans' HT2.out⟩
  · rw [if_neg h2] at hx; exact absurd rfl hx
set_option maxRecDepth 100000 in
theorem clone_at (A : Option Addr) (c n : Nat) (N : Nat → Prop) (xs : List B8) (w : World) (hx : SlN w N A (xs.map bv)) (hn : xs.length = n) (hA : A = none → c = 0) (hc : n ≤ c) (hlen : n ≤ 1099511627776) :
    Calls Try.prog 41 #[.slice A n c] w fun e w' => ∃ v, e = .returned v ∧ w'.ownsRow w.heap.size 5 1 v n (xs.map bv) ∧ Turn (fun _ => False) w w' := by
  subst hn; exact clone_any A c _ xs w hx.sl hA hc hlen
set_option maxRecDepth 100000 in
theorem Eye0.lt {w : World} {e E : Nat} {N : Nat → Prop} {l : List B8} (h : Eye0 w e E N l) : e < w.heap.size ∧ E < w.heap.size ∧ e ≠ E ∧ N e ∧ N E ∧ l.length ≤ 1099511627776 := by
  obtain ⟨A, c, he, hs, hc, hA, hB, hB', hl⟩ := h
  exact ⟨he.lt.1, he.lt.2, he.ne, hB, hB', hl⟩
end Go.Proofs.Ytmkpoodhhpfgpaa
