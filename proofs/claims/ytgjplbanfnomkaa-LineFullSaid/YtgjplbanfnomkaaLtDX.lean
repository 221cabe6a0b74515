/- Merged: The document's side of letters: in, num, yes, Great, Right, Same. The document's Right of letters. The document's Put of letters: form. -/
import Derived.Test.YtgjplbanfnomkaaLtAX
import Derived.Deep.AppendLies
import Derived.Deep.RegionLaw
namespace Go.Proofs.Ytgjplbanfnomkaa
section
set_option linter.unusedVariables false
set_option linter.unusedSimpArgs false

open Go.RowKit
def mostL : Int := 1099511627776
def inP (n : Int) : Prop := 0 ≤ n ∧ n ≤ 1099511627776
instance (n : Int) : Decidable (inP n) := by unfold inP; infer_instance
def yesN (s : Bool) : Nat := if s then 1 else 0
/-- Great. -/
def greI (p : Itm) : Bool := decide (200 < p.b.length)
def greL (l : Ltr) : Bool := (l.its.take 20).any greI || (decide (20 < l.its.length) || decide (300 < l.b.length))

end
section
set_option linter.unusedVariables false
set_option linter.unusedSimpArgs false

open Go.RowKit
def okI (p : Itm) : Bool := decide (inP p.t) && decide (p.b.length ≤ 8192)
def hdB (l : Ltr) : Bool := decide (1 ≤ l.k) && (decide (l.k ≤ 5) && (decide (inP l.t) && (decide (inP l.x) && (decide (inP l.y) && (decide (inP l.z) && (decide (l.its.length ≤ 16) && decide (l.b.length ≤ 65536)))))))
def usB (l : Ltr) : Bool := decide ((l.k = 2 → l.x = 0) ∧ (l.k = 2 ∨ l.k = 4 → l.y = 0) ∧ (l.k ≠ 3 ∧ l.k ≠ 4 → l.z = 0) ∧ (l.k ≠ 2 ∧ l.k ≠ 4 → l.s = false) ∧ (l.k ≠ 3 → l.its.length = 0) ∧ (l.k ≠ 5 → l.b.length = 0))
def okL (l : Ltr) : Bool := hdB l && (l.its.all okI && usB l)

end
section
set_option linter.unusedVariables false
set_option linter.unusedSimpArgs false

open Go.RowKit
def itF (p : Itm) : List B8 := numB p.t.toNat ++ (numB p.b.length ++ p.b)
def itsF (l : List Itm) : List B8 := (l.map itF).flatten
def headF (k t : Nat) : List B8 := numB k ++ numB t
def formL (l : Ltr) : List B8 :=
  headF l.k.toNat l.t.toNat ++
  (if l.k = 1 then numB l.x.toNat ++ numB l.y.toNat
  else if l.k = 2 then numB (yesN l.s)
  else if l.k = 3 then numB l.x.toNat ++ (numB l.y.toNat ++ (numB l.z.toNat ++ (numB l.its.length ++ itsF l.its)))
  else if l.k = 4 then numB (yesN l.s) ++ (numB l.x.toNat ++ numB l.z.toNat)
  else numB l.x.toNat ++ (numB l.y.toNat ++ (numB l.b.length ++ l.b)))
set_option maxRecDepth 100000 in
theorem itsF_succ {l : List Itm} {k : Nat} (h : k < l.length) : itsF (l.take (k + 1)) = itsF (l.take k) ++ itF l[k] := by
  unfold itsF
  rw [List.take_succ_eq_append_getElem h, List.map_append, List.flatten_append]
  simp
set_option maxRecDepth 100000 in
theorem okL_parts {l : Ltr} (h : okL l = true) : (1 ≤ l.k ∧ l.k ≤ 5 ∧ inP l.t ∧ inP l.x ∧ inP l.y ∧ inP l.z ∧ l.its.length ≤ 16 ∧ l.b.length ≤ 65536) ∧ (∀ p ∈ l.its, inP p.t ∧ p.b.length ≤ 8192) ∧ ((l.k = 2 → l.x = 0) ∧ (l.k = 2 ∨ l.k = 4 → l.y = 0) ∧ (l.k ≠ 3 ∧ l.k ≠ 4 → l.z = 0) ∧ (l.k ≠ 2 ∧ l.k ≠ 4 → l.s = false) ∧ (l.k ≠ 3 → l.its.length = 0) ∧ (l.k ≠ 5 → l.b.length = 0)) := by
  unfold okL hdB usB at h
  simp only [Bool.and_eq_true, decide_eq_true_eq, List.all_eq_true] at h
  refine ⟨h.1, fun p hp => ?_, h.2.2⟩
  have := h.2.1 p hp
  unfold okI at this
  simpa only [Bool.and_eq_true, decide_eq_true_eq] using this
set_option maxRecDepth 100000 in
theorem itF_le {p : Itm} (h : inP p.t ∧ p.b.length ≤ 8192) : (itF p).length ≤ 8210 := by
  have h1 := numB_le (n := p.t.toNat) (by have := h.1; unfold inP at this; omega)
  have h2 := numB_le (n := p.b.length) (by omega)
  unfold itF
  rw [List.length_append, List.length_append]; omega
set_option maxRecDepth 100000 in
theorem itsF_le {l : List Itm} (h : ∀ p ∈ l, inP p.t ∧ p.b.length ≤ 8192) : (itsF l).length ≤ 8210 * l.length := by
  induction l with
  | nil => simp [itsF]
  | cons p l ih =>
    have h1 := itF_le (h p List.mem_cons_self)
    have h2 := ih (fun q hq => h q (List.mem_cons_of_mem _ hq))
    show (itF p ++ itsF l).length ≤ _
    rw [List.length_append, List.length_cons]; omega

end
end Go.Proofs.Ytgjplbanfnomkaa
