/- The landed letter: putPlace, putYes. -/
import Derived.Test.YtgjplbanfnomkaaLtK
set_option linter.unusedVariables false
set_option linter.unusedSimpArgs false
namespace Go.Proofs.Ytgjplbanfnomkaa
open Go.RowKit
/-- A block that no writing of the pen turns. -/
def PenFree (w : World) (p : Nat) (v : Value) (g : Nat) : Prop := g ≠ p ∧ v.ownBlock ≠ some g ∧ g < w.heap.size
set_option maxRecDepth 100000 in
theorem PenFree.step {w w' : World} {p g : Nat} {v v' : Value} (h : PenFree w p v g) (s : PenStep w w' p v v') : PenFree w' p v' g := by
  obtain ⟨h1, h2, h3⟩ := h
  refine ⟨h1, ?_, Nat.lt_of_lt_of_le h3 s.1.size⟩
  rcases s.2 with e | ⟨k, e, hk⟩
  · rw [e]; exact h2
  · rw [e]; intro x; injection x with x; omega
set_option maxRecDepth 100000 in
theorem PenFree.not {w : World} {p g : Nat} {v : Value} (h : PenFree w p v g) : ¬ (g = p ∨ some g = v.ownBlock) := fun x => x.elim h.1 (fun x => h.2.1 x.symm)
set_option maxRecDepth 100000 in
theorem PenStep.heap {w w' : World} {p g : Nat} {v v' : Value} {o : Obj} (s : PenStep w w' p v v') (h : PenFree w p v g) (hg : w.heap[g]? = some o) : w'.heap[g]? = some o := s.1.heap hg h.not
set_option maxRecDepth 100000 in
theorem PenAt.low {w : World} {p B i : Nat} {v : Value} {xs : List B8} (h : PenAt w p B v xs) (hi : i < p) : ¬ (i = p ∨ some i = v.ownBlock) := by
  rintro (e | e)
  · omega
  · have := (h.2.1.lt i e.symm).1
    have := h.2.2.1
    omega
set_option maxRecDepth 100000 in
theorem PenAt.new {w : World} {p B : Nat} {v : Value} {xs : List B8} (h : PenAt w p B v xs) (o : Obj) : PenAt (w.alloc o) p B v xs ∧ PenFree (w.alloc o) p v w.heap.size ∧ PenStep w (w.alloc o) p v v := by
  refine ⟨h.turn ((Turn.refl (fun _ => False) w).alloc o) (fun h => h) (fun _ _ h => h), ⟨?_, ?_, by simp⟩, (Turn.refl _ _).alloc _, .inl rfl⟩
  · have := lt_of_block h.1; omega
  · intro e
    have := (h.2.1.lt _ e).2
    omega
set_option maxRecDepth 100000 in
theorem PenAt.penLow {w : World} {p B : Nat} {v : Value} {xs : List B8} (h : PenAt w p B v xs) : ∀ i, (i = p ∨ some i = v.ownBlock) → p ≤ i := fun i hi => Nat.le_of_not_lt (fun hl => h.low hl hi)
set_option maxRecDepth 100000 in
theorem LtN.pen {w w' : World} {p B : Nat} {A S : Option Addr} {cA cS : Nat} {l : Ltr} {v v' : Value} {xs : List B8} (h : LtN w (fun i => p ≤ i) A cA S cS l) (hp : PenAt w p B v xs) (s : PenStep w w' p v v') : LtN w' (fun i => p ≤ i) A cA S cS l := h.turn s.1 hp.penLow (fun _ _ h => h)
set_option maxRecDepth 100000 in
theorem ItN.pen {w w' : World} {p B : Nat} {A : Option Addr} {its : List Itm} {v v' : Value} {xs : List B8} (h : ItN w (fun i => p ≤ i) A its) (hp : PenAt w p B v xs) (s : PenStep w w' p v v') : ItN w' (fun i => p ≤ i) A its := h.turn s.1 hp.penLow (fun _ _ h => h)
set_option maxRecDepth 100000 in
theorem BtN.pen {w w' : World} {p B : Nat} {S : Option Addr} {c : Nat} {b : List B8} {v v' : Value} {xs : List B8} (h : BtN w (fun i => p ≤ i) S c b) (hp : PenAt w p B v xs) (s : PenStep w w' p v v') : BtN w' (fun i => p ≤ i) S c b := h.turn s.1 hp.penLow (fun _ _ h => h)
set_option maxRecDepth 100000 in
theorem ptextN {w : World} {p B : Nat} {v : Value} {xs b : List B8} {S : Option Addr} {c : Nat} (hp : PenAt w p B v xs) (h : BtN w (fun i => p ≤ i) S c b) (hlen : xs.length + 9 + b.length ≤ 1099511627776) :
    Calls Try.prog 52 #[.pointer (some ⟨p, 0, none⟩), .slice S b.length c] w fun r w' => r = .returned (.tuple #[]) ∧ ∃ v', PenAt w' p B v' (xs ++ (numB b.length ++ b)) ∧ PenStep w w' p v v' :=
  ptext_any p B v xs b S c w hp (h.turn (Turn.refl (fun _ => False) w) (fun _ h => h.elim) (fun i _ hi => hp.penLow i hi)).s h.a h.c hlen
end Go.Proofs.Ytgjplbanfnomkaa
