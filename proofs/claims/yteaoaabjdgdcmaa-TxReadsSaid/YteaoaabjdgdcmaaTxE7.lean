/- The document's reader. -/
import Derived.Test.YteaoaabjdgdcmaaTxE6
set_option linter.unusedVariables false
set_option linter.unusedSimpArgs false
namespace Go.Proofs.Yteaoaabjdgdcmaa
open Go.RowKit
set_option maxRecDepth 100000 in
theorem in_info : (Try.prog.info? 41).map (·.size) = some 35 := by kernel_rfl
set_option maxRecDepth 100000 in
theorem ou_info : (Try.prog.info? 43).map (·.size) = some 33 := by kernel_rfl
set_option maxRecDepth 100000 in
theorem own_turn {w w' : World} {T : Nat → Prop} {B s n : Nat} {e : TypeId} {v : Value} {xs : List Value} (h : w.ownsRow B e s v n xs) (t : Turn T w w') (hT : ∀ i, T i → i < B ∨ w.heap.size ≤ i) : w'.ownsRow B e s v n xs := by
  refine ⟨h.1, ?_⟩
  rcases h.2 with h1 | ⟨g, cap, cur, e1, hB, hg, r⟩
  · exact .inl h1
  · exact .inr ⟨g, cap, cur, e1, hB, t.heap hg (fun h => by have := hT _ h; have := lt_of_block hg; omega), r⟩
set_option maxRecDepth 100000 in
theorem own_turn2 {w w' : World} {T : Nat → Prop} {B C s n : Nat} {e : TypeId} {v : Value} {xs : List Value} (h : w.ownsRow B e s v n xs) (t : Turn T w w') (hC : ∀ i, v.ownBlock = some i → i < C) (hT : ∀ i, T i → i < B ∨ C ≤ i) : w'.ownsRow B e s v n xs := by
  refine ⟨h.1, ?_⟩
  rcases h.2 with h1 | ⟨g, cap, cur, e1, hB, hg, r⟩
  · exact .inl h1
  · refine .inr ⟨g, cap, cur, e1, hB, t.heap hg (fun h => ?_), r⟩
    have h1 := hT _ h
    have h2 := hC g (by rw [e1]; rfl)
    omega
set_option maxRecDepth 100000 in
theorem in_zero (w : World) : (zeroValue 41).run Try.prog w = .ok (.agg ZIn5) w := by kernel_rfl
set_option maxRecDepth 100000 in
theorem ou_zero (w : World) : (zeroValue 43).run Try.prog w = .ok (.agg ZOu5) w := by kernel_rfl
/-- The state behind some reading: the eye, the transaction's row, what both lists hold. -/
structure RSt (W Bu : Nat) (w wr : World) (e : Nat) (l : List B8) (v : Value) (k : Nat) (ps : List Pin) (u : Value) (m : Nat) (qs : List Pout) (f : Nat) (x : Int) : Prop where
  y : YS wr (fun i => W ≤ i) (W + 1) e l
  r : wr.heap[W]? = some (.cells #[.slice none 0 0, .slice none 0 0, .int .u64 0, .int .i64 0] 28 (0, 0))
  t : wr.heap[W + 2]? = some (.cells #[v, u, .int .u64 (f : Int), .int .i64 x] 28 (0, 0))
  v : ∃ cs, wr.ownsRow (W + 3) 41 35 v k cs ∧ cs.length = k * 35 ∧ (e = 0 → k = ps.length ∧ RowI wr (fun i => W ≤ i) cs ps)
  u : ∃ cs, wr.ownsRow Bu 43 33 u m cs ∧ cs.length = m * 33 ∧ (e = 0 → m = qs.length ∧ RowO cs qs)
  n : Turn (fun _ => False) w wr
def loopsOfR : Code → List Code
  | .loop c => c :: loopsOfR c
  | .seq a b => loopsOfR a ++ loopsOfR b
  | .block _ c => loopsOfR c
  | .scope c => loopsOfR c
  | .cond _ a b => loopsOfR a ++ loopsOfR b
  | _ => []
set_option maxRecDepth 100000 in
/-- Behind an error the rest and what was read are told of no more. -/
theorem RSt.err {W Bu : Nat} {w wr : World} {e : Nat} {l l' : List B8} {v u : Value} {k m : Nat} {ps ps' : List Pin} {qs qs' : List Pout} {f : Nat} {x : Int} (h : RSt W Bu w wr e l v k ps u m qs f x) (he : e ≠ 0) : RSt W Bu w wr e l' v k ps' u m qs' f x := by
  obtain ⟨⟨A, c, n, hr, hl⟩, h2, h3, ⟨cs, hv1, hv2, hv3⟩, ⟨us, hu1, hu2, hu3⟩, h6⟩ := h
  exact ⟨⟨A, c, n, hr, fun h => absurd h he⟩, h2, h3, ⟨cs, hv1, hv2, fun h => absurd h he⟩, ⟨us, hu1, hu2, fun h => absurd h he⟩, h6⟩
set_option maxRecDepth 100000 in
theorem RSt.base {W Bu : Nat} {w wr : World} {e : Nat} {l : List B8} {v : Value} {k : Nat} {ps : List Pin} {f : Nat} {x : Int} (h : RSt W Bu w wr e l v k ps (.slice none 0 0) 0 [] f x) (B' : Nat) : RSt W B' w wr e l v k ps (.slice none 0 0) 0 [] f x :=
  ⟨h.y, h.r, h.t, h.v, ⟨[], World.ownsRow_nil _ _ _ _, rfl, fun _ => ⟨rfl, fun i p h => by simp at h⟩⟩, h.n⟩
noncomputable def readLoop (n : Nat) : Code := ((Try.f6.body.map loopsOfR).getD []).getD n .skip
end Go.Proofs.Yteaoaabjdgdcmaa
