/- The landed letter: readItems. -/
import Derived.Test.YtgjplbanfnomkaaLtdX
import Derived.OwnWalk
set_option linter.unusedVariables false
set_option linter.unusedSimpArgs false
namespace Go.Proofs.Ytgjplbanfnomkaa
open Go.RowKit
section
variable {T : Nat → Prop} {w w' : World}
set_option maxRecDepth 100000 in
theorem there_lay {g : Nat} {C : Array Value} {t : TypeId} (h : w.heap[g]? = some (.cells C t (0, 0))) (n : Nat) (hn : n ≤ C.size) : w.there g 0 n := fun j hj => by
  refine ⟨?_, frozen_of_row w g _ _ _ h⟩
  rw [cell_of_row w g _ _ _ _ h, Nat.zero_add, Array.getElem?_eq_getElem (by omega)]; rfl
set_option maxRecDepth 100000 in
theorem there_turn {g o n : Nat} (h : w.there g o n) (t : Turn T w w') (hg : ¬ T g) : w'.there g o n := fun j hj => by
  obtain ⟨h1, h2⟩ := h j hj
  obtain ⟨v, hv⟩ := Option.isSome_iff_exists.1 h1
  have hb := t.block g (World.block_lt_of_cell? w _ hv) hg
  refine ⟨?_, ?_⟩
  · rw [World.cell?_of_block hb]; exact h1
  · rw [World.frozen?_of_block hb]; exact h2
set_option maxRecDepth 100000 in
theorem there_sub {g n : Nat} (h : w.there g 0 n) (o m : Nat) (ho : o + m ≤ n) : w.there g o m := fun j hj => by
  have := h (o + j) (by omega)
  rwa [Nat.zero_add] at this
set_option maxRecDepth 100000 in
theorem there_cell {g n : Nat} (h : w.there g 0 n) (o : Nat) (ho : o < n) : ∃ v, w.cell? ⟨g, o, none⟩ = some v ∧ w.frozen? ⟨g, o, none⟩ = false := by
  obtain ⟨h1, h2⟩ := h o ho
  rw [Nat.zero_add] at h1 h2
  obtain ⟨v, hv⟩ := Option.isSome_iff_exists.1 h1
  exact ⟨v, hv, h2⟩
end
set_option maxRecDepth 100000 in
theorem own_there {w : World} {B n s g c : Nat} {e : TypeId} {xs : List Value} (h : w.ownsRow B e s (.slice (some ⟨g, 0, none⟩) n c) n xs) : w.there g 0 (n * s) := by
  rcases h.2 with ⟨e, -⟩ | ⟨g', cap, cur, e, hB, hg, hc, hm, hcs, ht⟩
  · cases e
  · injection e with e1 e2 e3
    injection e1 with e1
    injection e1 with e1
    subst e1
    exact there_lay hg _ (by rw [hcs]; exact Nat.mul_le_mul_right _ hc)
/-- The cells of a row below a place are as they were. -/
def KeepLo (w w' : World) (G lo : Nat) : Prop := ∀ o v, o < lo → w.cell? ⟨G, o, none⟩ = some v → w'.cell? ⟨G, o, none⟩ = some v
set_option maxRecDepth 100000 in
theorem KeepLo.refl (w : World) (G lo : Nat) : KeepLo w w G lo := fun _ _ _ h => h
set_option maxRecDepth 100000 in
theorem KeepLo.trans {a b c : World} {G lo : Nat} (h : KeepLo a b G lo) (k : KeepLo b c G lo) : KeepLo a c G lo := fun o v ho hv => k o v ho (h o v ho hv)
set_option maxRecDepth 100000 in
theorem KeepLo.less {a b : World} {G lo lo' : Nat} (h : KeepLo a b G lo) (hl : lo' ≤ lo) : KeepLo a b G lo' := fun o v ho hv => h o v (by omega) hv
set_option maxRecDepth 100000 in
theorem KeepLo.turn {a b : World} {G lo : Nat} {S : Nat → Prop} (t : Turn S a b) (hS : ¬ S G) : KeepLo a b G lo := fun o v _ hv => t.cell hv hS
set_option maxRecDepth 100000 in
theorem KeepLo.setCell (w : World) (G o : Nat) (v : Value) : KeepLo w (w.setCell ⟨G, o, none⟩ v) G o := fun o' u ho hu => by
  rw [World.cell?_setCell_other _ _ _ _ (fun e => by injection e with e1 e2; omega)]; exact hu
set_option maxRecDepth 100000 in
theorem cell_set {w : World} {b o : Nat} {v u : Value} (h : w.cell? ⟨b, o, none⟩ = some v) : (w.setCell ⟨b, o, none⟩ u).cell? ⟨b, o, none⟩ = some u := by
  exact World.cell?_setCell_same _ _ _ h
/-- The first items of a row. -/
def RowIt (w : World) (K G : Nat) (l : List Itm) : Prop := ∀ i p, l[i]? = some p → p.ok ∧ ∃ S c, BtN w (fun i => i < K) S c p.b ∧ w.cell? ⟨G, i * 2, none⟩ = some (.int .i64 p.t) ∧ w.cell? ⟨G, i * 2 + 1, none⟩ = some (.slice S p.b.length c)
/-- Behind the items. -/
def sI (s : Rs) : Rs := itsS (s.nv 16) (s.num 16)
def vI (s : Rs) : List Itm := itsVs (s.nv 16) (s.num 16)
def IV (K n : Nat) (its : List Itm) (w : World) (v : Value) : Prop := ∃ G, v = .slice (some ⟨G, 0, none⟩) n n ∧ ItN w (fun i => i < K) (some ⟨G, 0, none⟩) its
set_option maxRecDepth 100000 in
theorem itsR_no {e E G K n : Nat} {its : List Itm} {N : Nat → Prop} {w w2 wj w' : World} {z s : Rs} (hX : z.e = s.e) (hx : s.e ≠ 0) (he : EyeX w' e E s.e) (t2 : Turn (fun i => i = e) w w2) (t3 : Turn (fun i => i = e ∨ i = G) w2 wj) (t4 : Turn (fun i => i = e ∨ i = E) wj w') (hG : w.heap.size ≤ G) : RP e E N w z (IV K n its) (pan E) w' := by
  refine Or.inr ⟨by rw [hX]; exact hx, rfl, by rw [hX]; exact he, ?_⟩
  exact ((t2.mono (fun _ _ h => .inl h)).trans t3 (fun i hi h => by rcases h with h | h; exact .inl h; omega)).trans t4 (fun _ _ h => h)
end Go.Proofs.Ytgjplbanfnomkaa
