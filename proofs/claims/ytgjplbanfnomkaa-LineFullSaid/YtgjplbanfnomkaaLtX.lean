/- The landed letter: the readers of numbers. -/
import Derived.Test.YtgjplbanfnomkaaLtU
set_option linter.unusedVariables false
set_option linter.unusedSimpArgs false
namespace Go.Proofs.Ytgjplbanfnomkaa
open Go.RowKit
/-- What a reading comes to: the state s', a value that V tells of; or the panic. -/
def RP (e E : Nat) (N : Nat → Prop) (w : World) (s : Rs) (V : World → Value → Prop) (r : Ending) (w' : World) : Prop :=
  (s.e = 0 ∧ ∃ v, r = .returned v ∧ V w' v ∧ Eye0 w' e E N s.l ∧ Turn (fun i => i = e) w w') ∨ (s.e ≠ 0 ∧ r = pan E ∧ EyeX w' e E s.e ∧ Turn (fun i => i = e ∨ i = E) w w')
set_option maxRecDepth 100000 in
theorem rp_yes {P : Program} {f : FuncId} {args : Array Value} {e E : Nat} {N : Nat → Prop} {w : World} {s : Rs} {V : World → Value → Prop} (h : Calls P f args w (RP e E N w s V)) (h0 : s.e = 0) :
    Calls P f args w fun r w' => ∃ v, r = .returned v ∧ V w' v ∧ Eye0 w' e E N s.l ∧ Turn (fun i => i = e) w w' :=
  h.mono fun r w' h => h.elim (fun h => h.2) (fun h => absurd h0 h.1)
set_option maxRecDepth 100000 in
theorem rp_no {P : Program} {f : FuncId} {args : Array Value} {e E : Nat} {N : Nat → Prop} {w : World} {s : Rs} {V : World → Value → Prop} (h : Calls P f args w (RP e E N w s V)) (h0 : s.e ≠ 0) :
    Calls P f args w fun r w' => r = pan E ∧ EyeX w' e E s.e ∧ Turn (fun i => i = e ∨ i = E) w w' :=
  h.mono fun r w' h => h.elim (fun h => absurd h.1 h0) (fun h => h.2)
set_option maxRecDepth 100000 in
theorem num_at {s : Rs} (m : Nat) (hs : s.e = 0) : (s.num m).e = eNum m s.l := by
  show nE s.e m s.l = _
  unfold nE; rw [if_neg (by omega)]
set_option maxRecDepth 100000 in
theorem nv_at {s : Rs} {m : Nat} (h0 : (s.num m).e = 0) : s.nv m = numV s.l := by
  unfold Rs.nv; rw [if_neg (by intro h; exact h h0)]
set_option maxRecDepth 100000 in
theorem text_at {s : Rs} (m : Nat) (hs : s.e = 0) : (s.text m).e = eText (m : Int) s.l := by
  show tE s.e m s.l = _
  unfold tE; rw [if_neg (by omega)]
set_option maxRecDepth 100000 in
theorem tv_at {s : Rs} {m : Nat} (h0 : (s.text m).e = 0) : s.tv m = (numR s.l).take (numV s.l) := by
  unfold Rs.tv tV; rw [if_neg (by intro h; exact h h0)]
set_option maxRecDepth 100000 in
theorem eye_num (e E : Nat) (N : Nat → Prop) (s : Rs) (m : Nat) (w : World) (h : Eye0 w e E N s.l) (hs : s.e = 0) :
    Calls Try.prog 70 #[.pointer (some ⟨e, 0, none⟩), .int .u64 (m : Int)] w (RP e E N w (s.num m) fun _ v => v = .int .u64 (s.nv m : Int)) := by
  have hx := num_at m hs
  by_cases h0 : (s.num m).e = 0
  · refine (num_yes e E N m s.l w h (by rw [← hx]; exact h0)).mono ?_
    rintro r w' ⟨rfl, he, ht⟩
    exact Or.inl ⟨h0, _, rfl, by rw [nv_at h0], he, ht⟩
  · refine (num_no e E N m s.l w h (by rw [← hx]; exact h0)).mono ?_
    rintro r w' ⟨rfl, he, ht⟩
    exact Or.inr ⟨h0, rfl, by rw [hx]; exact he, ht⟩
set_option maxRecDepth 100000 in
theorem eye_text (e E : Nat) (N : Nat → Prop) (s : Rs) (m : Nat) (w : World) (h : Eye0 w e E N s.l) (hs : s.e = 0) (hm : m < 9223372036854775808) :
    Calls Try.prog 72 #[.pointer (some ⟨e, 0, none⟩), .int .i64 (m : Int)] w (RP e E N w (s.text m) fun w' v => w'.ownsRow w.heap.size 5 1 v (s.tv m).length ((s.tv m).map bv)) := by
  have hx := text_at m hs
  by_cases h0 : (s.text m).e = 0
  · have hx0 : eText (m : Int) s.l = 0 := by rw [← hx]; exact h0
    refine (text_yes e E N m s.l w h hx0 (by omega)).mono ?_
    rintro r w' ⟨v, rfl, ho, he, ht⟩
    refine Or.inl ⟨h0, _, rfl, ?_, he, ht⟩
    rw [tv_at h0]
    have hl := ho.1
    rw [List.length_map, Nat.mul_one] at hl
    rw [hl]; exact ho
  · refine (text_no e E N m s.l w h (by rw [← hx]; exact h0) (by omega) (by omega)).mono ?_
    rintro r w' ⟨rfl, he, ht⟩
    exact Or.inr ⟨h0, rfl, by rw [hx]; exact he, ht⟩
end Go.Proofs.Ytgjplbanfnomkaa
