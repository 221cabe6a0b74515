/- The contracts of the eye's 'Num' and 'Text'. -/
import Derived.Test.YtciohmlobknhlaaFldD
set_option linter.unusedVariables false
namespace Go.Proofs.Ytciohmlobknhlaa
open Go.RowKit
def eNum (most : Nat) (l : List B8) : Nat := if numE l ≠ 0 then numE l else if most < numV l then 5 else 0
def eText (most : Int) (l : List B8) : Nat := if numE l ≠ 0 then numE l else if most < 0 ∨ most < (numV l : Int) then 5 else if (numR l).length < numV l then 2 else 0
theorem numV_lt (l : List B8) (h : numE l = 0) : numV l < 18446744073709551616 := by
  cases l with
  | nil => simp [numV]
  | cons k r =>
    have h8 : ¬ 8 < k.toNat := by intro h1; simp [numE, h1] at h
    have h1 := valB_lt (r.take k.toNat)
    have h2 : 256 ^ (r.take k.toNat).length ≤ 256 ^ 8 := Nat.pow_le_pow_right (by decide) (by simp; omega)
    simp only [numV]
    have h3 : (256 : Nat) ^ 8 = 18446744073709551616 := by decide
    omega
theorem num_yes (e E : Nat) (N : Nat → Prop) (most : Nat) (l : List B8) (w : World) (h : Eye0 w e E N l) (hx : eNum most l = 0) :
    Calls Try.prog 18 #[.pointer (some ⟨e, 0, none⟩), .int .u64 (most : Int)] w fun r w' => r = .returned (.int .u64 (numV l : Int)) ∧ Eye0 w' e E N (numR l) ∧ Turn (fun i => i = e) w w' := by
  unfold eNum at hx
  by_cases h1 : numE l ≠ 0
  · rw [if_pos h1] at hx; exact absurd hx h1
  rw [if_neg h1] at hx
  have h2 : ¬ most < numV l := by intro h; rw [if_pos h] at hx; cases hx
  have T := Lib.hid (number_yes e E N l w h (by omega))
  have h3 : ¬ ((most : Int) < (numV l : Int)) := by omega
  clear h hx h1 h2
  generalize numV l = v at *
  go_enter Try.func18, Try.ntmps18
  go_wp2_with (go_at_call 25; refine T.out.mono ?_; rintro q w1 ⟨rfl, he1, ht1⟩; have HE1 := Lib.hid he1; have HT1 := Lib.hid ht1; clear he1 ht1)
  go_ret
  exact ⟨rfl, HE1.out, HT1.out⟩
theorem num_no (e E : Nat) (N : Nat → Prop) (most : Nat) (l : List B8) (w : World) (h : Eye0 w e E N l) (hx : eNum most l ≠ 0) :
    Calls Try.prog 18 #[.pointer (some ⟨e, 0, none⟩), .int .u64 (most : Int)] w fun r w' => r = pan E ∧ EyeX w' e E (eNum most l) ∧ Turn (fun i => i = e ∨ i = E) w w' := by
  unfold eNum at hx ⊢
  by_cases h1 : numE l ≠ 0
  · rw [if_pos h1]
    have T := Lib.hid (number_no e E N l w h h1)
    clear h hx h1
    go_enter Try.func18, Try.ntmps18
    go_wp2_with (go_at_call 25; refine T.out.mono ?_; rintro q w1 ⟨rfl, he1, ht1⟩; dsimp only [pan]; have HE1 := Lib.hid he1; have HT1 := Lib.hid ht1; clear he1 ht1)
    exact ⟨rfl, rfl, HE1.out, HT1.out⟩
  rw [if_neg h1] at hx ⊢
  by_cases h2 : most < numV l
  · rw [if_pos h2]
    have T := Lib.hid (number_yes e E N l w h (by omega))
    have T2 := Lib.hid (fun w h => fail0 e E N 5 (numR l) w h (by decide))
    have h3 : ((most : Int) < (numV l : Int)) := by omega
    clear h hx h1 h2
    generalize numV l = v at *
    go_enter Try.func18, Try.ntmps18
    go_wp2_with (first
      | (go_at_call 25; refine T.out.mono ?_; rintro q w1 ⟨rfl, he1, ht1⟩; have HE1 := Lib.hid he1; have HT1 := Lib.hid ht1; clear he1 ht1)
      | (go_at_call 26; refine (T2.out _ HE1.out).mono ?_; rintro q w2 ⟨rfl, he2, ht2⟩; dsimp only [pan]; have HE2 := Lib.hid he2; have HT2 := Lib.hid ht2; clear he2 ht2))
    exact ⟨rfl, rfl, HE2.out, HT1.out.trans' HT2.out⟩
  · rw [if_neg h2] at hx; exact absurd rfl hx
theorem clone_at (A : Option Addr) (c n : Nat) (N : Nat → Prop) (xs : List B8) (w : World) (hx : SlN w N A (xs.map bv)) (hn : xs.length = n) (hA : A = none → c = 0) (hc : n ≤ c) (hlen : n ≤ 1099511627776) :
    Calls Try.prog 22 #[.slice A n c] w fun e w' => ∃ v, e = .returned v ∧ w'.ownsRow w.heap.size 5 1 v n (xs.map bv) ∧ Turn (fun _ => False) w w' := by
  subst hn; exact clone_any A c _ xs w hx.sl hA hc hlen
theorem Eye0.lt {w : World} {e E : Nat} {N : Nat → Prop} {l : List B8} (h : Eye0 w e E N l) : e < w.heap.size ∧ E < w.heap.size ∧ e ≠ E ∧ N e ∧ N E ∧ l.length ≤ 1099511627776 := by
  obtain ⟨A, c, he, hs, hc, hA, hB, hB', hl⟩ := h
  exact ⟨he.lt.1, he.lt.2, he.ne, hB, hB', hl⟩
set_option maxHeartbeats 1000000 in
theorem text_yes (e E : Nat) (N : Nat → Prop) (most : Int) (l : List B8) (w : World) (h : Eye0 w e E N l) (hx : eText most l = 0) (hm : most < 9223372036854775808) :
    Calls Try.prog 19 #[.pointer (some ⟨e, 0, none⟩), .int .i64 most] w fun r w' => ∃ v, r = .returned v ∧ w'.ownsRow w.heap.size 5 1 v (numV l) (((numR l).take (numV l)).map bv) ∧ Eye0 w' e E N ((numR l).drop (numV l)) ∧ Turn (fun i => i = e) w w' := by
  unfold eText at hx
  by_cases h1 : numE l ≠ 0
  · rw [if_pos h1] at hx; exact absurd hx h1
  rw [if_neg h1] at hx
  by_cases h2 : most < 0 ∨ most < (numV l : Int)
  · rw [if_pos h2] at hx; cases hx
  rw [if_neg h2] at hx
  by_cases h4 : (numR l).length < numV l
  · rw [if_pos h4] at hx; cases hx
  have T := Lib.hid (number_yes e E N l w h (by omega))
  obtain ⟨m, rfl⟩ : ∃ m : Nat, most = (m : Int) := ⟨most.toNat, by omega⟩
  have h3 : ¬ ((m : Int) < (numV l : Int)) := by omega
  have T2 := Lib.hid (fun w h => take0_yes e E N (numV l) (numR l) w h (by omega))
  have h5 : m < 9223372036854775808 := by omega
  have HL := Lib.hid (show ((numR l).take (numV l)).length = numV l by simp; omega)
  have hlt := h.lt
  clear h hx h1 h2 h4 hm
  generalize numV l = v at *
  generalize numR l = r at *
  go_enter Try.func19, Try.ntmps19
  go_wp2_with (first
    | (go_at_call 25; refine T.out.mono ?_; rintro q w1 ⟨rfl, he1, ht1⟩; have HE1 := Lib.hid he1; have HT1 := Lib.hid ht1; clear he1 ht1)
    | (go_at_call 27; refine (T2.out _ HE1.out).mono ?_; rintro q w2 ⟨A2, c2, rfl, hs2, hA2, hc2, he2, ht2⟩; have V2 := Lib.hid (clone_at A2 c2 v N _ w2 hs2 HL.out hA2 hc2 (by have := HE1.out.lt; have := congrArg List.length (List.take_append_drop v r); have := HL.out; simp at *; omega)); have HE2 := Lib.hid he2; have HT2 := Lib.hid ht2; clear hs2 hA2 hc2 he2 ht2)
    | (go_at_call 22; refine V2.out.mono ?_; rintro q w3 ⟨v3, rfl, ho3, ht3⟩; have HO3 := Lib.hid ho3; have HT3 := Lib.hid ht3; clear ho3 ht3))
  go_ret
  have s1 := HT1.out.size
  have s2 := HT2.out.size
  have l2 := HE2.out.lt
  exact ⟨v3, rfl, own_more HO3.out (by omega), HE2.out.turn HT3.out (fun h => h) (fun h => h) (fun _ h => h.elim), (HT1.out.trans HT2.out (fun _ _ h => h)).trans HT3.out (fun _ _ h => h.elim)⟩
set_option maxHeartbeats 1000000 in
theorem text_no (e E : Nat) (N : Nat → Prop) (most : Int) (l : List B8) (w : World) (h : Eye0 w e E N l) (hx : eText most l ≠ 0) (hm : most < 9223372036854775808) (hm2 : -9223372036854775808 ≤ most) :
    Calls Try.prog 19 #[.pointer (some ⟨e, 0, none⟩), .int .i64 most] w fun r w' => r = pan E ∧ EyeX w' e E (eText most l) ∧ Turn (fun i => i = e ∨ i = E) w w' := by
  unfold eText at hx ⊢
  by_cases h1 : numE l ≠ 0
  · rw [if_pos h1]
    have T := Lib.hid (number_no e E N l w h h1)
    clear h hx h1
    go_enter Try.func19, Try.ntmps19
    go_wp2_with (go_at_call 25; refine T.out.mono ?_; rintro q w1 ⟨rfl, he1, ht1⟩; dsimp only [pan]; have HE1 := Lib.hid he1; have HT1 := Lib.hid ht1; clear he1 ht1)
    exact ⟨rfl, rfl, HE1.out, HT1.out⟩
  rw [if_neg h1] at hx ⊢
  have T := Lib.hid (number_yes e E N l w h (by omega))
  by_cases h2 : most < 0 ∨ most < (numV l : Int)
  · rw [if_pos h2]
    have T2 := Lib.hid (fun w h => fail0 e E N 5 (numR l) w h (by decide))
    by_cases h3 : most < 0
    · clear h hx h1 h2
      generalize numV l = v at *
      go_enter Try.func19, Try.ntmps19
      go_wp2_with (first
        | (go_at_call 25; refine T.out.mono ?_; rintro q w1 ⟨rfl, he1, ht1⟩; have HE1 := Lib.hid he1; have HT1 := Lib.hid ht1; clear he1 ht1)
        | (go_at_call 26; refine (T2.out _ HE1.out).mono ?_; rintro q w2 ⟨rfl, he2, ht2⟩; dsimp only [pan]; have HE2 := Lib.hid he2; have HT2 := Lib.hid ht2; clear he2 ht2))
      exact ⟨rfl, rfl, HE2.out, HT1.out.trans' HT2.out⟩
    · obtain ⟨m, rfl⟩ : ∃ m : Nat, most = (m : Int) := ⟨most.toNat, by omega⟩
      have h3 : ((m : Int) < (numV l : Int)) := by omega
      have h5 : m < 9223372036854775808 := by omega
      clear h hx h1 h2 hm hm2
      generalize numV l = v at *
      go_enter Try.func19, Try.ntmps19
      go_wp2_with (first
        | (go_at_call 25; refine T.out.mono ?_; rintro q w1 ⟨rfl, he1, ht1⟩; have HE1 := Lib.hid he1; have HT1 := Lib.hid ht1; clear he1 ht1)
        | (go_at_call 26; refine (T2.out _ HE1.out).mono ?_; rintro q w2 ⟨rfl, he2, ht2⟩; dsimp only [pan]; have HE2 := Lib.hid he2; have HT2 := Lib.hid ht2; clear he2 ht2))
      exact ⟨rfl, rfl, HE2.out, HT1.out.trans' HT2.out⟩
  rw [if_neg h2] at hx ⊢
  by_cases h4 : (numR l).length < numV l
  · rw [if_pos h4]
    obtain ⟨m, rfl⟩ : ∃ m : Nat, most = (m : Int) := ⟨most.toNat, by omega⟩
    have h3 : ¬ ((m : Int) < (numV l : Int)) := by omega
    have T2 := Lib.hid (fun w h => take0_no e E N (numV l) (numR l) w h h4)
    have h5 : m < 9223372036854775808 := by omega
    clear h hx h1 h2 h4 hm hm2
    generalize numV l = v at *
    go_enter Try.func19, Try.ntmps19
    go_wp2_with (first
      | (go_at_call 25; refine T.out.mono ?_; rintro q w1 ⟨rfl, he1, ht1⟩; have HE1 := Lib.hid he1; have HT1 := Lib.hid ht1; clear he1 ht1)
      | (go_at_call 27; refine (T2.out _ HE1.out).mono ?_; rintro q w2 ⟨rfl, he2, ht2⟩; dsimp only [pan]; have HE2 := Lib.hid he2; have HT2 := Lib.hid ht2; clear he2 ht2))
    exact ⟨rfl, rfl, HE2.out, HT1.out.trans' HT2.out⟩
  · rw [if_neg h4] at hx; exact absurd rfl hx
end Go.Proofs.Ytciohmlobknhlaa
