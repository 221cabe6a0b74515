/- The document's reader: its errors, rests and values one after another, and that they are the whole's; what a state behind some reading says. -/
import Derived.Test.YteaoaabjdgdcmaaTxE7
import Derived.Test.YteaoaabjdgdcmaaTxS
set_option linter.unusedVariables false
set_option linter.unusedSimpArgs false
namespace Go.Proofs.Yteaoaabjdgdcmaa
open Go.RowKit
def g1E (b : List B8) : Nat := nE 0 16 b
def g1N (b : List B8) : Nat := if g1E b ≠ 0 then 0 else numV b
def g2E (b : List B8) : Nat := if g1E b ≠ 0 then g1E b else insE (g1N b) (numR b)
def g2R (b : List B8) : List B8 := insR (g1N b) (numR b)
def g2V (b : List B8) : List Pin := insV (g1N b) (numR b)
def g3E (b : List B8) : Nat := nE (g2E b) 16 (g2R b)
def g3N (b : List B8) : Nat := if g3E b ≠ 0 then 0 else numV (g2R b)
def g4E (b : List B8) : Nat := if g3E b ≠ 0 then g3E b else ousE (g3N b) (numR (g2R b))
def g4R (b : List B8) : List B8 := ousR (g3N b) (numR (g2R b))
def g4V (b : List B8) : List Pout := ousV (g3N b) (numR (g2R b))
def g5E (b : List B8) : Nat := nE (g4E b) 18446744073709551615 (g4R b)
def g5N (b : List B8) : Nat := if g5E b ≠ 0 then 0 else numV (g4R b)
def g6E (b : List B8) : Nat := nE (g5E b) 1099511627776 (numR (g4R b))
def g6N (b : List B8) : Nat := if g6E b ≠ 0 then 0 else numV (numR (g4R b))
def g6R (b : List B8) : List B8 := numR (numR (g4R b))
def gT (b : List B8) : Ptx := ⟨g2V b, g4V b, g5N b, (g6N b : Int)⟩
set_option maxRecDepth 100000 in
theorem nE_zero {e m : Nat} {l : List B8} (h : nE e m l = 0) : e = 0 ∧ eNum m l = 0 := by
  unfold nE at h
  by_cases he : e = 0
  · rw [if_neg (by omega)] at h; exact ⟨he, h⟩
  · rw [if_pos he] at h; exact absurd h he
set_option maxRecDepth 100000 in
theorem nE_of {e m : Nat} {l : List B8} (h : e = 0) : nE e m l = eNum m l := by unfold nE; rw [if_neg (by omega)]
set_option maxRecDepth 100000 in
theorem nE_keep {e m : Nat} {l : List B8} (h : e ≠ 0) : nE e m l = e := by unfold nE; rw [if_pos h]
set_option maxRecDepth 100000 in
theorem nN_le {e m : Nat} {l : List B8} : (if nE e m l ≠ 0 then 0 else numV l) ≤ m ∧ (if nE e m l ≠ 0 then 0 else numV l) < 18446744073709551616 := by
  by_cases h : nE e m l = 0
  · rw [if_neg (by omega)]; exact eNum_le (nE_zero h).2
  · rw [if_pos h]; omega
set_option maxRecDepth 100000 in
theorem g2_eq (b : List B8) : g2E b = rinsE b ∧ (g2E b = 0 → g2R b = rinsR b ∧ g2V b = rinsV b) := by
  have h1 : g1E b = eNum 16 b := nE_of rfl
  by_cases h : g1E b = 0
  · have hn : g1N b = numV b := by unfold g1N; rw [if_neg (by omega)]
    refine ⟨by unfold g2E rinsE; rw [if_neg (by omega), if_neg (by omega), hn], fun _ => ⟨by unfold g2R rinsR; rw [hn], by unfold g2V rinsV; rw [hn]⟩⟩
  · refine ⟨by unfold g2E rinsE; rw [if_pos h, if_pos (by omega), h1], fun h0 => ?_⟩
    exfalso; unfold g2E at h0; rw [if_pos h] at h0; exact h h0
set_option maxRecDepth 100000 in
theorem g4_eq (b : List B8) : g4E b = (if rinsE b ≠ 0 then rinsE b else rousE (rinsR b)) ∧ (g4E b = 0 → g2E b = 0 ∧ g4R b = rousR (rinsR b) ∧ g4V b = rousV (rinsR b)) := by
  obtain ⟨h1, h2⟩ := g2_eq b
  by_cases h : g2E b = 0
  · obtain ⟨h3, h4⟩ := h2 h
    have h5 : g3E b = eNum 16 (rinsR b) := by unfold g3E; rw [nE_of h, h3]
    rw [if_neg (by omega)]
    by_cases h6 : g3E b = 0
    · have hn : g3N b = numV (rinsR b) := by unfold g3N; rw [if_neg (by omega), h3]
      refine ⟨by unfold g4E rousE; rw [if_neg (by omega), if_neg (by omega), hn, h3], fun _ => ⟨h, by unfold g4R rousR; rw [hn, h3], by unfold g4V rousV; rw [hn, h3]⟩⟩
    · refine ⟨by unfold g4E rousE; rw [if_pos h6, if_pos (by omega), h5], fun h0 => ?_⟩
      exfalso; unfold g4E at h0; rw [if_pos h6] at h0; exact h6 h0
  · have h5 : g3E b = g2E b := nE_keep h
    rw [if_pos (by omega)]
    refine ⟨by unfold g4E; rw [if_pos (by omega), h5, h1], fun h0 => ?_⟩
    exfalso; unfold g4E at h0; rw [if_pos (by omega)] at h0; omega
set_option maxRecDepth 100000 in
theorem g_bod (b : List B8) : g6E b = bodE b ∧ (g6E b = 0 → g6R b = bodR b ∧ gT b = bodV b) := by
  obtain ⟨h1, h2⟩ := g4_eq b
  obtain ⟨i1, i2⟩ := g2_eq b
  by_cases h : g4E b = 0
  · obtain ⟨h3, h4, h5⟩ := h2 h
    obtain ⟨i3, i4⟩ := i2 h3
    have k1 : rinsE b = 0 := by omega
    have k2 : rousE (rinsR b) = 0 := by rw [if_neg (by omega)] at h1; omega
    have h6 : g5E b = eNum topN (rousR (rinsR b)) := by unfold g5E; rw [nE_of h, h4]; rfl
    unfold bodE
    rw [if_neg (by omega), if_neg (by omega)]
    by_cases h7 : g5E b = 0
    · have h8 : g6E b = eNum 1099511627776 (numR (rousR (rinsR b))) := by unfold g6E; rw [nE_of h7, h4]
      rw [if_neg (by omega)]
      refine ⟨h8, fun h0 => ⟨by unfold g6R bodR; rw [h4], ?_⟩⟩
      unfold gT bodV g5N g6N
      rw [if_neg (by omega), if_neg (by omega), i4, h5, h4]
    · have h8 : g6E b = g5E b := nE_keep h7
      rw [if_pos (by omega)]
      exact ⟨by omega, fun h0 => by omega⟩
  · have h6 : g5E b = g4E b := nE_keep h
    have h7 : g6E b = g5E b := nE_keep (by omega)
    refine ⟨?_, fun h0 => by omega⟩
    rw [h7, h6, h1]
    unfold bodE
    by_cases k : rinsE b = 0
    · rw [if_neg (by omega), if_neg (by omega)]
      rw [h1, if_neg (by omega)] at h
      rw [if_pos h]
    · rw [if_pos k, if_pos k]
section
variable {W Bu : Nat} {w wr w' : World} {e e' : Nat} {l l' : List B8} {v u : Value} {k m : Nat} {ps : List Pin} {qs : List Pout} {f : Nat} {x : Int}
set_option maxRecDepth 100000 in
theorem RSt.num (h : RSt W Bu w wr e l v k ps u m qs f x) (hy : YS w' (fun i => W ≤ i) (W + 1) e' l') (t : Turn (fun i => i = W + 1) wr w') (hW : W = w.heap.size) (hB : W + 3 ≤ Bu) (he : e' = 0 → e = 0) : RSt W Bu w w' e' l' v k ps u m qs f x := by
  obtain ⟨cs, hv1, hv2, hv3⟩ := h.v
  obtain ⟨us, hu1, hu2, hu3⟩ := h.u
  exact ⟨hy, t.heap h.r (by omega), t.heap h.t (by omega), ⟨cs, own_turn hv1 t (fun i h => by omega), hv2, fun h0 => ⟨(hv3 (he h0)).1, (hv3 (he h0)).2.turn t (fun i h => by show W ≤ i; omega)⟩⟩, ⟨us, own_turn hu1 t (fun i h => by omega), hu2, fun h0 => hu3 (he h0)⟩, h.n.trans t (fun i hi h => by omega)⟩
set_option maxRecDepth 100000 in
theorem RSt.setT (h : RSt W Bu w wr e l v k ps u m qs f x) (hW : W = w.heap.size) (hB : W + 3 ≤ Bu) (c : Nat) (z : Value) (f' : Nat) (x' : Int) (hz : (#[v, u, .int .u64 (f : Int), .int .i64 x] : Array Value).setIfInBounds c z = #[v, u, .int .u64 (f' : Int), .int .i64 x']) : RSt W Bu w (wr.setCell ⟨W + 2, c, none⟩ z) e l v k ps u m qs f' x' := by
  have t := set_turn wr (W + 2) c z
  obtain ⟨cs, hv1, hv2, hv3⟩ := h.v
  obtain ⟨us, hu1, hu2, hu3⟩ := h.u
  exact ⟨h.y.turn t (fun e => by have e' : W + 1 = W + 2 := e; omega) (fun i h => by have h' : i = W + 2 := h; show W ≤ i; omega) (fun _ _ h => h), t.heap h.r (fun e => by have e' : W = W + 2 := e; omega), by rw [heap_setCell_same wr (W + 2) c _ _ _ h.t, hz], ⟨cs, own_turn hv1 t (fun i h => by have h' : i = W + 2 := h; omega), hv2, fun h0 => ⟨(hv3 h0).1, (hv3 h0).2.turn t (fun i h => by have h' : i = W + 2 := h; show W ≤ i; omega)⟩⟩, ⟨us, own_turn hu1 t (fun i h => by have h' : i = W + 2 := h; omega), hu2, hu3⟩, h.n.trans t (fun i hi h => by have h' : i = W + 2 := h; omega)⟩
end
section
variable {W Bu : Nat} {w wr w' : World} {l : List B8} {Av Ao : Option Addr} {k m cv co : Nat} {ps : List Pin} {qs : List Pout} {f : Nat} {x : Int} {u v : Value}
set_option maxRecDepth 100000 in
theorem RSt.insN (h : RSt W Bu w wr 0 l (.slice Av k cv) k ps u m qs f x) : k = ps.length ∧ (Av = none → cv = 0) ∧ ps.length ≤ cv ∧ InsN wr (fun i => W ≤ i ∧ i < W + 3) Av ps := by
  obtain ⟨cs, hv1, hv2, hv3⟩ := h.v
  obtain ⟨hk, hr⟩ := hv3 rfl
  have hr := hr
  rcases hv1.2 with ⟨e, h0⟩ | ⟨g, cap, cur, e, hB, hg, hc, hm, hs, ht⟩
  · injection e with e1 e2 e3
    refine ⟨hk, fun _ => e3, by omega, fun i p hi => ?_⟩
    have := (List.getElem?_eq_some_iff.1 hi).1
    omega
  · injection e with e1 e2 e3
    subst e1 e3
    refine ⟨hk, fun h => (by cases h), by omega, fun i p hi => ?_⟩
    obtain ⟨hok, S, c, hb, hcells⟩ := hr i p hi
    refine ⟨hok, g, 0, S, c, rfl, by omega, ⟨hb.s.turn (Turn.refl (fun _ => False) wr) (fun _ h => h.elim) (fun i _ h => by have h' : W ≤ i ∧ i < W + 3 := h; exact h'.1), hb.a, hb.c⟩, fun j z hj => ?_⟩
    have h3 := hcells j z hj
    have h4 := hv1.cellAt (i * 35 + j) (by have := (List.getElem?_eq_some_iff.1 h3).1; omega)
    rw [Nat.zero_add, h4, h3]
set_option maxRecDepth 100000 in
theorem RSt.ousN (h : RSt W Bu w wr 0 l v k ps (.slice Ao m co) m qs f x) (hBu : W + 3 ≤ Bu) : m = qs.length ∧ (Ao = none → co = 0) ∧ qs.length ≤ co ∧ OusN wr (fun i => W ≤ i ∧ i < W + 3) Ao qs := by
  obtain ⟨cs, hv1, hv2, hv3⟩ := h.u
  obtain ⟨hk, hr⟩ := hv3 rfl
  rcases hv1.2 with ⟨e, h0⟩ | ⟨g, cap, cur, e, hB, hg, hc, hm, hs, ht⟩
  · injection e with e1 e2 e3
    refine ⟨hk, fun _ => e3, by omega, fun i p hi => ?_⟩
    have := (List.getElem?_eq_some_iff.1 hi).1
    omega
  · injection e with e1 e2 e3
    subst e1 e3
    refine ⟨hk, fun h => (by cases h), by omega, fun i p hi => ?_⟩
    obtain ⟨hok, hcells⟩ := hr i p hi
    refine ⟨hok, g, 0, rfl, by omega, fun j z hj => ?_⟩
    have h3 := hcells j z hj
    have h4 := hv1.cellAt (i * 33 + j) (by have := (List.getElem?_eq_some_iff.1 h3).1; omega)
    rw [Nat.zero_add, h4, h3]
set_option maxRecDepth 100000 in
theorem RSt.txAt (h : RSt W Bu w wr 0 l (.slice Av k cv) k ps (.slice Ao m co) m qs f x) (hBu : W + 3 ≤ Bu) (hk : k ≤ 16) (hm : m ≤ 16) (hf : f < 18446744073709551616) (hx0 : 0 ≤ x) (hx : x ≤ 1099511627776) (t : Turn (fun i => W ≤ i ∧ i < W + 3) wr w') : TxAt w' w'.heap.size Av cv Ao co ⟨ps, qs, f, x⟩ := by
  obtain ⟨a1, a2, a3, a4⟩ := h.insN
  obtain ⟨b1, b2, b3, b4⟩ := h.ousN hBu
  have a5 := (a4.turn (N' := fun _ => False) t (fun _ h => h) (fun _ _ h => h.elim)).at
  have b5 := (b4.turn (N' := fun _ => False) t (fun _ h => h) (fun _ _ h => h.elim)).at
  exact ⟨a5, a2, a3, by show ps.length ≤ _; unfold maxLen; omega, b5, b2, b3, by show qs.length ≤ _; unfold maxLen; omega, hf, by show _ ≤ x; omega, by show x < _; omega⟩
end
end Go.Proofs.Yteaoaabjdgdcmaa
