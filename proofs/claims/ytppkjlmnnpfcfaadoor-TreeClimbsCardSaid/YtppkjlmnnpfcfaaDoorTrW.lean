/- What the laws on paths carry from world to world; a byte of a digest in a row of digests turned. -/
import Derived.Test.YtppkjlmnnpfcfaaDoorTrT
set_option linter.unusedVariables false
namespace Go.Proofs.YtppkjlmnnpfcfaaDoor
open Go.RowKit
/-- What the laws on paths carry from world to world. -/
structure Env (A : Option Addr) (ls : List (List B8)) (k : Nat) (x : List B8) (ad : Addr) (Ak : Option Addr) (ck : Nat) (Ap : Option Addr) (pd : List (List B8)) (w : World) : Prop where
  l : LstN w A ls
  c : w.cell? (ad.add k) = some (.slice Ak x.length ck)
  x : Bts w Ak x
  p : IdsAt w Ap pd
  g : Glob w
theorem Env.below {A : Option Addr} {ls : List (List B8)} {k : Nat} {x : List B8} {ad : Addr} {Ak : Option Addr} {ck : Nat} {Ap : Option Addr} {pd : List (List B8)} {w w' : World} (h : Env A ls k x ad Ak ck Ap pd w) (hb : Below w.heap.size w w') : Env A ls k x ad Ak ck Ap pd w' :=
  ⟨h.l.below hb, (hb.cell (World.block_lt_of_cell? w _ h.c)).trans h.c, h.x.below hb, h.p.below hb, glob_below h.g hb (Nat.le_refl _)⟩
theorem idsV_set : ∀ (ds : List (List B8)) (h : ∀ d ∈ ds, d.length = 32) (i r : Nat) (d : List B8) (y : B8), ds[i]? = some d → r < 32 → (idsV ds).set (i * 32 + r) (bv y) = idsV (ds.set i (d.set r y))
  | [], h, i, r, d, y, hi, hr => by simp at hi
  | x :: l, h, 0, r, d, y, hi, hr => by
    obtain rfl : x = d := by simpa using hi
    have hx := h x (by simp)
    unfold idsV
    rw [List.set_cons_zero, List.flatMap_cons, List.flatMap_cons, Nat.zero_mul, Nat.zero_add, List.set_append_left _ _ (by rw [List.length_map, hx]; exact hr), List.map_set]
  | x :: l, h, i + 1, r, d, y, hi, hr => by
    have hx := h x (by simp)
    have ih := idsV_set l (fun z hz => h z (by simp [hz])) i r d y (by simpa using hi) hr
    unfold idsV at *
    rw [List.set_cons_succ, List.flatMap_cons, List.flatMap_cons, List.set_append_right _ _ (by rw [List.length_map, hx]; omega), List.length_map, hx, show (i + 1) * 32 + r - 32 = i * 32 + r by omega, ih]
theorem set_len32 {ds : List (List B8)} (h : ∀ d ∈ ds, d.length = 32) {i r : Nat} {d : List B8} {y : B8} (hi : ds[i]? = some d) : ∀ e ∈ ds.set i (d.set r y), e.length = 32 := fun e he => by
  rcases List.mem_or_eq_of_mem_set he with h1 | h1
  · exact h e h1
  · rw [h1, List.length_set]; exact h d (List.mem_of_getElem? hi)
theorem IdsAt.cut1 {w : World} {g c : Nat} {ds : List (List B8)} (h : IdsAt w (some ⟨g, 0, none⟩) ds) (hc : ds.length ≤ c) : IdsAt w (if c = 1 then some ⟨g, 0, none⟩ else (some (⟨g, 0, none⟩ : Addr)).map (·.add (1 * 32))) (ds.drop 1) := fun i d hi => by
  rw [List.getElem?_drop] at hi
  obtain ⟨h1, b, o, e, hb, hr⟩ := h (1 + i) d hi
  have hlt := (List.getElem?_eq_some_iff.1 hi).1
  injection e with e; injection e with e1 e2; subst e1; subst e2
  refine ⟨h1, g, 32, ?_, hb, ?_⟩
  · rw [if_neg (by omega)]; rfl
  · rw [show 32 + i * 32 = 0 + (1 + i) * 32 by omega]; exact hr
/-- A shorter path doesn't climb. -/
theorem climb_short {x : List B8} {k n : Nat} {ls ps : List (List B8)} (hn : n = ls.length) (h : ps.length ≠ (pathD ls k).length) : climbD x k n ps = none := by
  cases hc : climbD x k n ps with
  | none => rfl
  | some d =>
    exfalso
    have h1 := climb_len n x k ps (by rw [hc]; intro e; cases e)
    have h2 := path_len ls.length ls k (Nat.le_refl _)
    rw [← hn] at h2
    omega
end Go.Proofs.YtppkjlmnnpfcfaaDoor
