/- A transaction read: what each reading answers, as plain functions. -/
import Derived.Test.YteaoaabjdgdcmaaTxN
set_option linter.unusedVariables false
set_option linter.unusedSimpArgs false
namespace Go.Proofs.Yteaoaabjdgdcmaa
open Go.RowKit
def topN : Nat := 18446744073709551615
/-- One input: the error, what it is, and what is left. -/
def inE (l : List B8) : Nat :=
  if l.length < 32 then 2 else if eNum 15 (l.drop 32) ≠ 0 then eNum 15 (l.drop 32) else if eNum topN (numR (l.drop 32)) ≠ 0 then eNum topN (numR (l.drop 32)) else eText 64 (numR (numR (l.drop 32)))
def inV (l : List B8) : Pin := ⟨l.take 32, (numV (l.drop 32) : Int), numV (numR (l.drop 32)), (numR (numR (numR (l.drop 32)))).take (numV (numR (numR (l.drop 32))))⟩
def inR (l : List B8) : List B8 := (numR (numR (numR (l.drop 32)))).drop (numV (numR (numR (l.drop 32))))
def ouE (l : List B8) : Nat := if l.length < 32 then 2 else eNum topN (l.drop 32)
def ouV (l : List B8) : Pout := ⟨l.take 32, numV (l.drop 32)⟩
def ouR (l : List B8) : List B8 := numR (l.drop 32)
def insR : Nat → List B8 → List B8 | 0, l => l | k + 1, l => inR (insR k l)
def insV : Nat → List B8 → List Pin | 0, _ => [] | k + 1, l => insV k l ++ [inV (insR k l)]
def insE : Nat → List B8 → Nat | 0, _ => 0 | k + 1, l => if insE k l ≠ 0 then insE k l else inE (insR k l)
def ousR : Nat → List B8 → List B8 | 0, l => l | k + 1, l => ouR (ousR k l)
def ousV : Nat → List B8 → List Pout | 0, _ => [] | k + 1, l => ousV k l ++ [ouV (ousR k l)]
def ousE : Nat → List B8 → Nat | 0, _ => 0 | k + 1, l => if ousE k l ≠ 0 then ousE k l else ouE (ousR k l)
/-- All inputs with their number ahead; all outputs. -/
def rinsE (l : List B8) : Nat := if eNum 16 l ≠ 0 then eNum 16 l else insE (numV l) (numR l)
def rinsV (l : List B8) : List Pin := insV (numV l) (numR l)
def rinsR (l : List B8) : List B8 := insR (numV l) (numR l)
def rousE (l : List B8) : Nat := if eNum 16 l ≠ 0 then eNum 16 l else ousE (numV l) (numR l)
def rousV (l : List B8) : List Pout := ousV (numV l) (numR l)
def rousR (l : List B8) : List B8 := ousR (numV l) (numR l)
/-- The fields of a transaction. -/
def bodE (l : List B8) : Nat :=
  if rinsE l ≠ 0 then rinsE l else if rousE (rinsR l) ≠ 0 then rousE (rinsR l) else if eNum topN (rousR (rinsR l)) ≠ 0 then eNum topN (rousR (rinsR l)) else eNum 1099511627776 (numR (rousR (rinsR l)))
def bodV (l : List B8) : Ptx := ⟨rinsV l, rousV (rinsR l), numV (rousR (rinsR l)), (numV (numR (rousR (rinsR l))) : Int)⟩
def bodR (l : List B8) : List B8 := numR (numR (rousR (rinsR l)))
def readE (b : List B8) : Nat := if bodE b ≠ 0 then bodE b else if bodR b ≠ [] then 3 else chk (bodV b)
def readV (b : List B8) : Ptx := if readE b ≠ 0 then exZ else bodV b
set_option maxRecDepth 100000 in
theorem insV_len (k : Nat) (l : List B8) : (insV k l).length = k := by induction k with | zero => rfl | succ k ih => simp [insV, ih]
set_option maxRecDepth 100000 in
theorem ousV_len (k : Nat) (l : List B8) : (ousV k l).length = k := by induction k with | zero => rfl | succ k ih => simp [ousV, ih]
set_option maxRecDepth 100000 in
theorem insE_stop {k n : Nat} {l : List B8} (h : insE k l ≠ 0) (hn : k ≤ n) : insE n l = insE k l := by
  induction n with
  | zero => obtain rfl : k = 0 := by omega
            rfl
  | succ n ih =>
    by_cases he : k = n + 1
    · rw [he]
    · rw [insE, ih (by omega), if_pos h]
set_option maxRecDepth 100000 in
theorem insE_here {k n : Nat} {l : List B8} (h0 : insE k l = 0) (h : inE (insR k l) ≠ 0) (hn : k < n) : insE n l = inE (insR k l) := by
  have h1 : insE (k + 1) l = inE (insR k l) := by rw [insE, if_neg (by omega)]
  rw [insE_stop (k := k + 1) (by rw [h1]; exact h) hn, h1]
set_option maxRecDepth 100000 in
theorem insE_next {k : Nat} {l : List B8} (h0 : insE k l = 0) (h : inE (insR k l) = 0) : insE (k + 1) l = 0 := by rw [insE, if_neg (by omega), h]
set_option maxRecDepth 100000 in
theorem ousE_stop {k n : Nat} {l : List B8} (h : ousE k l ≠ 0) (hn : k ≤ n) : ousE n l = ousE k l := by
  induction n with
  | zero => obtain rfl : k = 0 := by omega
            rfl
  | succ n ih =>
    by_cases he : k = n + 1
    · rw [he]
    · rw [ousE, ih (by omega), if_pos h]
set_option maxRecDepth 100000 in
theorem ousE_here {k n : Nat} {l : List B8} (h0 : ousE k l = 0) (h : ouE (ousR k l) ≠ 0) (hn : k < n) : ousE n l = ouE (ousR k l) := by
  have h1 : ousE (k + 1) l = ouE (ousR k l) := by rw [ousE, if_neg (by omega)]
  rw [ousE_stop (k := k + 1) (by rw [h1]; exact h) hn, h1]
set_option maxRecDepth 100000 in
theorem ousE_next {k : Nat} {l : List B8} (h0 : ousE k l = 0) (h : ouE (ousR k l) = 0) : ousE (k + 1) l = 0 := by rw [ousE, if_neg (by omega), h]
/-- Bytes, inputs and outputs in no block of N. -/
structure BtN (w : World) (N : Nat → Prop) (S : Option Addr) (c : Nat) (b : List B8) : Prop where
  s : SlN w N S (b.map bv)
  a : S = none → c = 0
  c : b.length ≤ c
def InsN (w : World) (N : Nat → Prop) (A : Option Addr) (l : List Pin) : Prop := ∀ i p, l[i]? = some p → p.ok ∧ ∃ b o S c, A = some ⟨b, o, none⟩ ∧ ¬ N b ∧ BtN w N S c p.b ∧ w.rangeAt b (o + i * 35) (p.cells S c)
def OusN (w : World) (N : Nat → Prop) (A : Option Addr) (l : List Pout) : Prop := ∀ i p, l[i]? = some p → p.ok ∧ ∃ b o, A = some ⟨b, o, none⟩ ∧ ¬ N b ∧ w.rangeAt b (o + i * 33) p.cells
section
variable {w w' : World} {N N' T : Nat → Prop} {A S : Option Addr} {c : Nat} {b : List B8} {l : List Pin} {k : List Pout}
set_option maxRecDepth 100000 in
theorem BtN.turn (h : BtN w N S c b) (t : Turn T w w') (hT : ∀ i, T i → N i) (hN : ∀ i, i < w.heap.size → N' i → N i) : BtN w' N' S c b := ⟨h.s.turn t hT hN, h.a, h.c⟩
set_option maxRecDepth 100000 in
theorem range_lt {b o : Nat} {cs : List Value} (h : w.rangeAt b o cs) (hc : 0 < cs.length) : b < w.heap.size := by
  have := h 0 _ (List.getElem?_eq_getElem hc)
  exact World.block_lt_of_cell? w _ this
set_option maxRecDepth 100000 in
theorem InsN.turn (h : InsN w N A l) (t : Turn T w w') (hT : ∀ i, T i → N i) (hN : ∀ i, i < w.heap.size → N' i → N i) : InsN w' N' A l := fun i p hi => by
  obtain ⟨hok, b, o, S, c, e, hb, hs, hr⟩ := h i p hi
  exact ⟨hok, b, o, S, c, e, fun h => hb (hN _ (range_lt hr (by rw [p.len S c hok.d]; omega)) h), hs.turn t hT hN, t.range hr (fun h => hb (hT _ h))⟩
set_option maxRecDepth 100000 in
theorem OusN.turn (h : OusN w N A k) (t : Turn T w w') (hT : ∀ i, T i → N i) (hN : ∀ i, i < w.heap.size → N' i → N i) : OusN w' N' A k := fun i p hi => by
  obtain ⟨hok, b, o, e, hb, hr⟩ := h i p hi
  exact ⟨hok, b, o, e, fun h => hb (hN _ (range_lt hr (by rw [p.len hok.d]; omega)) h), t.range hr (fun h => hb (hT _ h))⟩
set_option maxRecDepth 100000 in
theorem InsN.at (h : InsN w N A l) : InsAt w w.heap.size A l := fun i p hi => by
  obtain ⟨hok, b, o, S, c, e, hb, hs, hr⟩ := h i p hi
  exact ⟨hok, b, o, S, c, e, range_lt hr (by rw [p.len S c hok.d]; omega), ⟨hs.s.sl, hs.a, hs.c⟩, hr⟩
set_option maxRecDepth 100000 in
theorem OusN.at (h : OusN w N A k) : OutsAt w w.heap.size A k := fun i p hi => by
  obtain ⟨hok, b, o, e, hb, hr⟩ := h i p hi
  exact ⟨hok, b, o, e, range_lt hr (by rw [p.len hok.d]; omega), hr⟩
set_option maxRecDepth 100000 in
theorem there_lay {g : Nat} {C : Array Value} {t : TypeId} (h : w.heap[g]? = some (.cells C t (0, 0))) (n : Nat) (hn : n ≤ C.size) : w.there g 0 n := fun j hj => by
  refine ⟨?_, frozen_of_row w g _ _ _ h⟩
  rw [cell_of_row w g _ _ _ _ h, Nat.zero_add, Array.getElem?_eq_getElem (by omega)]; rfl
set_option maxRecDepth 100000 in
theorem there_turn {g o n : Nat} (h : w.there g o n) (t : Turn T w w') (hg : ¬ T g) : w'.there g o n := fun j hj => by
  obtain ⟨h1, h2⟩ := h j hj
  obtain ⟨v, hv⟩ := Option.isSome_iff_exists.1 h1
  have hb := t.block g (World.block_lt_of_cell? w _ hv) hg
  refine ⟨?_, ?_⟩
  · rw [World.cell?_of_block hb]; exact h1
  · rw [World.frozen?_of_block hb]; exact h2
set_option maxRecDepth 100000 in
theorem there_sub {g n : Nat} (h : w.there g 0 n) (o m : Nat) (ho : o + m ≤ n) : w.there g o m := fun j hj => by
  have := h (o + j) (by omega)
  rwa [Nat.zero_add] at this
set_option maxRecDepth 100000 in
theorem there_cell {g n : Nat} (h : w.there g 0 n) (o : Nat) (ho : o < n) : ∃ v, w.cell? ⟨g, o, none⟩ = some v ∧ w.frozen? ⟨g, o, none⟩ = false := by
  obtain ⟨h1, h2⟩ := h o ho
  rw [Nat.zero_add] at h1 h2
  obtain ⟨v, hv⟩ := Option.isSome_iff_exists.1 h1
  exact ⟨v, hv, h2⟩
end
end Go.Proofs.Yteaoaabjdgdcmaa
