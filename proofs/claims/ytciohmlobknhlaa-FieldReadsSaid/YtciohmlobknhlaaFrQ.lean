/- A drawn region whose head only reads (and calls what only draws), and whose last operations are forced: the head by one quiet walk, the tail in the text's order. No program is named here. -/
import Derived.Test.YtciohmlobknhlaaTail
import Derived.BigQuiet
namespace Go.Proofs.Ytciohmlobknhlaa
section
variable {P : Program} {l : List Oper} {Q : Exit → Act → World → Prop}
theorem wp_region_quiet_tail {id : Nat} {a : Act} {w : World} (k : Nat) (hm : P.follows .mixedOrders = true) (hT : tailB l k = true) (hB : Region.lexB .any (l.take k).toArray = true)
    (h : wpQuiet P (l.take k).toArray (fun w' => ∃ n, w' = w.drewN n) (fun a' => ∀ w', (∃ n, w' = w.drewN n) → wpList P l.toArray Q (l.drop k) a' w') (l.take k) a) : (Code.region id l.toArray true).wp P Q a w := by
  simp only [Region.lexB, Bool.and_eq_true] at hB
  refine wp_region_any hm (wpAny_tail hT ?_)
  have h1 := wpAny_of_quiet (P := P) (md := .any) (ops := (l.take k).toArray) (C := fun w' => ∃ n, w' = w.drewN n) (Q' := QH P l k Q) (Q := fun a' => ∀ w', (∃ n, w' = w.drewN n) → QH P l k Q .normal a' w') (fun _ w' hw' h => h w' hw')
  have h2 := wpAnyQ_lex (P := P) (C := fun w' => ∃ n, w' = w.drewN n) (md := .any) hB.1 (l.take k) 0 (Array.replicate (l.take k).toArray.size false) a (by simp) (by simpa using hB.2) h
  have h3 := h1 _ _ _ w.drew ⟨1, rfl⟩ h2
  simpa using h3
end
end Go.Proofs.Ytciohmlobknhlaa
