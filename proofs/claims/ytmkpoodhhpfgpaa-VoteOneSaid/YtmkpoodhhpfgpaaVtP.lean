/- 'VoteOne': its walk. -/
import Derived.Test.YtmkpoodhhpfgpaaVtJ
import Derived.Test.YtmkpoodhhpfgpaaVtO
set_option linter.unusedVariables false
set_option linter.unusedSimpArgs false
namespace Go.Proofs.Ytmkpoodhhpfgpaa
open Go.RowKit
def vv (p : Int × Int) : List Value := [.int .i64 p.1, .int .i64 p.2]
def vvs (l : List (Int × Int)) : List Value := (l.map vv).flatten
theorem vvs_len (l : List (Int × Int)) : (vvs l).length = l.length * 2 := by
  induction l with
  | nil => rfl
  | cons p l ih => show (vv p ++ vvs l).length = _; rw [List.length_append, ih]; simp [vv]; omega
theorem vvs_snoc (l : List (Int × Int)) (p : Int × Int) : vvs (l ++ [p]) = vvs l ++ vv p := by simp [vvs]
theorem vvs_at (l : List (Int × Int)) (k : Nat) (h : k < l.length) : (vvs l)[k * 2]? = some (.int .i64 l[k].1) ∧ (vvs l)[k * 2 + 1]? = some (.int .i64 l[k].2) := by
  induction l generalizing k with
  | nil => simp at h
  | cons p l ih =>
    have e : vvs (p :: l) = .int .i64 p.1 :: .int .i64 p.2 :: vvs l := rfl
    cases k with
    | zero => rw [e]; exact ⟨rfl, rfl⟩
    | succ k =>
      have h2 := ih k (by simpa using h)
      rw [e, show (k + 1) * 2 = k * 2 + 2 by omega]
      exact h2
/-- What is so of the votes given. -/
def VI (t f : Int) (vs : List (Int × Int)) : Prop := ∀ p ∈ vs, p.1 ≤ t ∧ (p.1 = t → p.2 = f ∧ f ≠ -1)
theorem VI.start : VI 0 (-1) [] := fun p h => by simp at h
theorem VI.step {t f : Int} {vs : List (Int × Int)} (h : VI t f vs) (x : Int) : VI (stepT t x) (stepF t f x) vs := by
  unfold stepT stepF
  by_cases hx : x ≤ t
  · rw [if_pos hx, if_pos hx]; exact h
  · rw [if_neg hx, if_neg hx]
    intro p hp
    have := (h p hp).1
    exact ⟨by omega, fun e => by omega⟩
theorem VI.same {t f g : Int} {vs : List (Int × Int)} (h : VI t f vs) (hf : f = -1 ∨ f = g) (p : Int × Int) (hp : p ∈ vs) (e : p.1 = t) : p.2 = g := by
  obtain ⟨h1, h2⟩ := (h p hp).2 e
  rcases hf with h3 | h3
  · exact absurd h3 h2
  · omega
theorem VI.add {t f g : Int} {vs : List (Int × Int)} (h : VI t f vs) (hf : f = -1 ∨ f = g) (hg : 0 ≤ g) : VI t g (vs ++ [(t, g)]) := by
  intro p hp
  rcases List.mem_append.1 hp with h1 | h1
  · exact ⟨(h p h1).1, fun e => ⟨h.same hf p h1 e, by omega⟩⟩
  · rw [List.mem_singleton.1 h1]; exact ⟨Int.le_refl _, fun _ => ⟨rfl, by omega⟩⟩
theorem step_ge (t x : Int) : t ≤ stepT t x := by unfold stepT; split <;> omega
theorem step_eq {t f x : Int} (h : stepT t x = t) : stepF t f x = f := by
  unfold stepT at h; unfold stepF
  by_cases hx : x ≤ t
  · rw [if_pos hx]
  · rw [if_neg hx] at h; omega
theorem grB_parts {t f g x : Int} {n : Bool} (h : grB t f g x n = true) : 0 ≤ g ∧ n = true ∧ t = x ∧ (f = -1 ∨ f = g) := by
  unfold grB at h
  simp only [Bool.and_eq_true, Bool.or_eq_true, decide_eq_true_eq] at h
  exact ⟨h.1, h.2.2.1, h.2.2.2.1, h.2.2.2.2⟩
theorem bl_infoR : (Try.prog.info? 23).map (fun i => (i.zero, i.size, i.bytes)) = some (some (.agg #[.int .i64 0, .int .i64 0]), 2, 16) := by kernel_rfl
theorem own_keep {S : Nat → Prop} {w w' : World} {B : Nat} {e : TypeId} {z n : Nat} {v : Value} {xs : List Value} (h : w.ownsRow B e z v n xs) (t : Turn S w w') (hS : ∀ i, S i → i < B) : w'.ownsRow B e z v n xs := by
  refine ⟨h.1, ?_⟩
  rcases h.2 with h2 | ⟨g, cap, cur, rfl, hB, hg, hr⟩
  · exact .inl h2
  · exact .inr ⟨g, cap, cur, rfl, hB, t.heap hg (fun hs => by have := hS _ hs; omega), hr⟩
end Go.Proofs.Ytmkpoodhhpfgpaa
