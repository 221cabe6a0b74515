/- Merged: 'Read' with a reader that holds a variable of its caller. A transaction read: what each reading answers, as plain functions. The contracts of 'readIns' and 'readOuts'. The contract of 'readOuts'. The contract of the reader of a transaction. The contract of 'Read'. Loads of a point and of an output as one rule of the walk. The contract of the document's Check. The contract of the document's Same. -/
import Derived.Test.YtoclfohgchlpnaaDoorTxX
import Derived.OwnWalk
import Derived.Laws.ResultCell
import Derived.Laws.Rows
import Derived.Deep.QuietTactic
import Derived.BigQuiet
namespace Go.Proofs.YtoclfohgchlpnaaDoor
section
set_option linter.unusedVariables false

open Go.RowKit
end
section
set_option linter.unusedVariables false
set_option linter.unusedSimpArgs false

open Go.RowKit
def topN : Nat := 18446744073709551615
/-- One input: the error, what it is, and what is left. -/
def inE (l : List B8) : Nat :=
  if l.length < 32 then 2 else if eNum 15 (l.drop 32) ≠ 0 then eNum 15 (l.drop 32) else if eNum topN (numR (l.drop 32)) ≠ 0 then eNum topN (numR (l.drop 32)) else eText 64 (numR (numR (l.drop 32)))
def inV (l : List B8) : Pin := ⟨l.take 32, (numV (l.drop 32) : Int), numV (numR (l.drop 32)), (numR (numR (numR (l.drop 32)))).take (numV (numR (numR (l.drop 32))))⟩
def inR (l : List B8) : List B8 := (numR (numR (numR (l.drop 32)))).drop (numV (numR (numR (l.drop 32))))
def ouE (l : List B8) : Nat := if l.length < 32 then 2 else eNum topN (l.drop 32)
def ouV (l : List B8) : Pout := ⟨l.take 32, numV (l.drop 32)⟩
def ouR (l : List B8) : List B8 := numR (l.drop 32)
def insR : Nat → List B8 → List B8 | 0, l => l | k + 1, l => inR (insR k l)
def insV : Nat → List B8 → List Pin | 0, _ => [] | k + 1, l => insV k l ++ [inV (insR k l)]
def insE : Nat → List B8 → Nat | 0, _ => 0 | k + 1, l => if insE k l ≠ 0 then insE k l else inE (insR k l)
def ousR : Nat → List B8 → List B8 | 0, l => l | k + 1, l => ouR (ousR k l)
def ousV : Nat → List B8 → List Pout | 0, _ => [] | k + 1, l => ousV k l ++ [ouV (ousR k l)]
def ousE : Nat → List B8 → Nat | 0, _ => 0 | k + 1, l => if ousE k l ≠ 0 then ousE k l else ouE (ousR k l)
/-- All inputs with their number ahead; all outputs. -/
def rinsE (l : List B8) : Nat := if eNum 16 l ≠ 0 then eNum 16 l else insE (numV l) (numR l)
def rinsV (l : List B8) : List Pin := insV (numV l) (numR l)
def rinsR (l : List B8) : List B8 := insR (numV l) (numR l)
def rousE (l : List B8) : Nat := if eNum 16 l ≠ 0 then eNum 16 l else ousE (numV l) (numR l)
def rousV (l : List B8) : List Pout := ousV (numV l) (numR l)
def rousR (l : List B8) : List B8 := ousR (numV l) (numR l)
/-- The fields of a transaction. -/
def bodE (l : List B8) : Nat :=
  if rinsE l ≠ 0 then rinsE l else if rousE (rinsR l) ≠ 0 then rousE (rinsR l) else if eNum topN (rousR (rinsR l)) ≠ 0 then eNum topN (rousR (rinsR l)) else eNum 1099511627776 (numR (rousR (rinsR l)))
def bodV (l : List B8) : Ptx := ⟨rinsV l, rousV (rinsR l), numV (rousR (rinsR l)), (numV (numR (rousR (rinsR l))) : Int)⟩
def bodR (l : List B8) : List B8 := numR (numR (rousR (rinsR l)))
def readE (b : List B8) : Nat := if bodE b ≠ 0 then bodE b else if bodR b ≠ [] then 3 else chk (bodV b)
def readV (b : List B8) : Ptx := if readE b ≠ 0 then exZ else bodV b
set_option maxRecDepth 100000 in
theorem insV_len (k : Nat) (l : List B8) : (insV k l).length = k := by induction k with | zero => rfl | succ k ih => simp [insV, ih]
set_option maxRecDepth 100000 in
theorem ousV_len (k : Nat) (l : List B8) : (ousV k l).length = k := by induction k with | zero => rfl | succ k ih => simp [ousV, ih]
set_option maxRecDepth 100000 in
theorem insE_stop {k n : Nat} {l : List B8} (h : insE k l ≠ 0) (hn : k ≤ n) : insE n l = insE k l := by
  induction n with
  | zero => obtain rfl : k = 0 := by omega
            rfl
  | succ n ih =>
    by_cases he : k = n + 1
    · rw [he]
    · rw [insE, ih (by omega), if_pos h]
set_option maxRecDepth 100000 in
theorem insE_here {k n : Nat} {l : List B8} (h0 : insE k l = 0) (h : inE (insR k l) ≠ 0) (hn : k < n) : insE n l = inE (insR k l) := by
  have h1 : insE (k + 1) l = inE (insR k l) := by rw [insE, if_neg (by omega)]
  rw [insE_stop (k := k + 1) (by rw [h1]; exact h) hn, h1]
set_option maxRecDepth 100000 in
theorem insE_next {k : Nat} {l : List B8} (h0 : insE k l = 0) (h : inE (insR k l) = 0) : insE (k + 1) l = 0 := by rw [insE, if_neg (by omega), h]
set_option maxRecDepth 100000 in
theorem ousE_stop {k n : Nat} {l : List B8} (h : ousE k l ≠ 0) (hn : k ≤ n) : ousE n l = ousE k l := by
  induction n with
  | zero => obtain rfl : k = 0 := by omega
            rfl
  | succ n ih =>
    by_cases he : k = n + 1
    · rw [he]
    · rw [ousE, ih (by omega), if_pos h]
set_option maxRecDepth 100000 in
theorem ousE_here {k n : Nat} {l : List B8} (h0 : ousE k l = 0) (h : ouE (ousR k l) ≠ 0) (hn : k < n) : ousE n l = ouE (ousR k l) := by
  have h1 : ousE (k + 1) l = ouE (ousR k l) := by rw [ousE, if_neg (by omega)]
  rw [ousE_stop (k := k + 1) (by rw [h1]; exact h) hn, h1]
set_option maxRecDepth 100000 in
theorem ousE_next {k : Nat} {l : List B8} (h0 : ousE k l = 0) (h : ouE (ousR k l) = 0) : ousE (k + 1) l = 0 := by rw [ousE, if_neg (by omega), h]
/-- Bytes, inputs and outputs in no block of N. -/
structure BtN (w : World) (N : Nat → Prop) (S : Option Addr) (c : Nat) (b : List B8) : Prop where
  s : SlN w N S (b.map bv)
  a : S = none → c = 0
  c : b.length ≤ c
def InsN (w : World) (N : Nat → Prop) (A : Option Addr) (l : List Pin) : Prop := ∀ i p, l[i]? = some p → p.ok ∧ ∃ b o S c, A = some ⟨b, o, none⟩ ∧ ¬ N b ∧ BtN w N S c p.b ∧ w.rangeAt b (o + i * 35) (p.cells S c)
def OusN (w : World) (N : Nat → Prop) (A : Option Addr) (l : List Pout) : Prop := ∀ i p, l[i]? = some p → p.ok ∧ ∃ b o, A = some ⟨b, o, none⟩ ∧ ¬ N b ∧ w.rangeAt b (o + i * 33) p.cells
section
variable {w w' : World} {N N' T : Nat → Prop} {A S : Option Addr} {c : Nat} {b : List B8} {l : List Pin} {k : List Pout}
set_option maxRecDepth 100000 in
theorem BtN.turn (h : BtN w N S c b) (t : Turn T w w') (hT : ∀ i, T i → N i) (hN : ∀ i, i < w.heap.size → N' i → N i) : BtN w' N' S c b := ⟨h.s.turn t hT hN, h.a, h.c⟩
set_option maxRecDepth 100000 in
theorem range_lt {b o : Nat} {cs : List Value} (h : w.rangeAt b o cs) (hc : 0 < cs.length) : b < w.heap.size := by
  have := h 0 _ (List.getElem?_eq_getElem hc)
  exact World.block_lt_of_cell? w _ this
set_option maxRecDepth 100000 in
theorem InsN.turn (h : InsN w N A l) (t : Turn T w w') (hT : ∀ i, T i → N i) (hN : ∀ i, i < w.heap.size → N' i → N i) : InsN w' N' A l := fun i p hi => by
  obtain ⟨hok, b, o, S, c, e, hb, hs, hr⟩ := h i p hi
  exact ⟨hok, b, o, S, c, e, fun h => hb (hN _ (range_lt hr (by rw [p.len S c hok.d]; omega)) h), hs.turn t hT hN, t.range hr (fun h => hb (hT _ h))⟩
set_option maxRecDepth 100000 in
theorem OusN.turn (h : OusN w N A k) (t : Turn T w w') (hT : ∀ i, T i → N i) (hN : ∀ i, i < w.heap.size → N' i → N i) : OusN w' N' A k := fun i p hi => by
  obtain ⟨hok, b, o, e, hb, hr⟩ := h i p hi
  exact ⟨hok, b, o, e, fun h => hb (hN _ (range_lt hr (by rw [p.len hok.d]; omega)) h), t.range hr (fun h => hb (hT _ h))⟩
set_option maxRecDepth 100000 in
theorem InsN.at (h : InsN w N A l) : InsAt w w.heap.size A l := fun i p hi => by
  obtain ⟨hok, b, o, S, c, e, hb, hs, hr⟩ := h i p hi
  exact ⟨hok, b, o, S, c, e, range_lt hr (by rw [p.len S c hok.d]; omega), ⟨hs.s.sl, hs.a, hs.c⟩, hr⟩
set_option maxRecDepth 100000 in
theorem OusN.at (h : OusN w N A k) : OutsAt w w.heap.size A k := fun i p hi => by
  obtain ⟨hok, b, o, e, hb, hr⟩ := h i p hi
  exact ⟨hok, b, o, e, range_lt hr (by rw [p.len hok.d]; omega), hr⟩
set_option maxRecDepth 100000 in
theorem there_lay {g : Nat} {C : Array Value} {t : TypeId} (h : w.heap[g]? = some (.cells C t (0, 0))) (n : Nat) (hn : n ≤ C.size) : w.there g 0 n := fun j hj => by
  refine ⟨?_, frozen_of_row w g _ _ _ h⟩
  rw [cell_of_row w g _ _ _ _ h, Nat.zero_add, Array.getElem?_eq_getElem (by omega)]; rfl
set_option maxRecDepth 100000 in
theorem there_turn {g o n : Nat} (h : w.there g o n) (t : Turn T w w') (hg : ¬ T g) : w'.there g o n := fun j hj => by
  obtain ⟨h1, h2⟩ := h j hj
  obtain ⟨v, hv⟩ := Option.isSome_iff_exists.1 h1
  have hb := t.block g (World.block_lt_of_cell? w _ hv) hg
  refine ⟨?_, ?_⟩
  · rw [World.cell?_of_block hb]; exact h1
  · rw [World.frozen?_of_block hb]; exact h2
set_option maxRecDepth 100000 in
theorem there_sub {g n : Nat} (h : w.there g 0 n) (o m : Nat) (ho : o + m ≤ n) : w.there g o m := fun j hj => by
  have := h (o + j) (by omega)
  rwa [Nat.zero_add] at this
set_option maxRecDepth 100000 in
theorem there_cell {g n : Nat} (h : w.there g 0 n) (o : Nat) (ho : o < n) : ∃ v, w.cell? ⟨g, o, none⟩ = some v ∧ w.frozen? ⟨g, o, none⟩ = false := by
  obtain ⟨h1, h2⟩ := h o ho
  rw [Nat.zero_add] at h1 h2
  obtain ⟨v, hv⟩ := Option.isSome_iff_exists.1 h1
  exact ⟨v, hv, h2⟩
end

end
section
set_option linter.unusedVariables false
set_option linter.unusedSimpArgs false

open Go.RowKit
set_option maxRecDepth 100000 in
theorem Turn.setCells {S : Nat → Prop} {a : World} (g : Nat) (hS : g < a.heap.size → S g) : ∀ (vs : List Value) (o : Nat) (b : World), Turn S a b → Turn S a (b.setCells g o vs)
  | [], _, _, h => h
  | v :: vs, o, b, h => Turn.setCells g hS vs (o + 1) (b.setCell ⟨g, o, none⟩ v) (h.setCell _ _ hS)
set_option maxRecDepth 100000 in
theorem info_in : (Tryd.prog.info? 58).map (fun i => (i.zero, i.size, i.bytes)) = some (some (.agg ZIn), 35, 72) := by kernel_rfl
set_option maxRecDepth 100000 in
theorem info_out : (Tryd.prog.info? 60).map (fun i => (i.zero, i.size, i.bytes)) = some (some (.agg ZOut), 33, 40) := by kernel_rfl
set_option maxRecDepth 100000 in
theorem own_there {w : World} {B n s g c : Nat} {e : TypeId} {xs : List Value} (h : w.ownsRow B e s (.slice (some ⟨g, 0, none⟩) n c) n xs) : w.there g 0 (n * s) := by
  rcases h.2 with ⟨e, -⟩ | ⟨g', cap, cur, e, hB, hg, hc, hm, hcs, ht⟩
  · cases e
  · injection e with e1 e2 e3
    injection e1 with e1
    injection e1 with e1
    subst e1
    exact there_lay hg _ (by rw [hcs]; exact Nat.mul_le_mul_right _ hc)
/-- The cells of a row below a place are as they were. -/
def KeepLo (w w' : World) (G lo : Nat) : Prop := ∀ o v, o < lo → w.cell? ⟨G, o, none⟩ = some v → w'.cell? ⟨G, o, none⟩ = some v
set_option maxRecDepth 100000 in
theorem KeepLo.refl (w : World) (G lo : Nat) : KeepLo w w G lo := fun _ _ _ h => h
set_option maxRecDepth 100000 in
theorem KeepLo.trans {a b c : World} {G lo : Nat} (h : KeepLo a b G lo) (k : KeepLo b c G lo) : KeepLo a c G lo := fun o v ho hv => k o v ho (h o v ho hv)
set_option maxRecDepth 100000 in
theorem KeepLo.less {a b : World} {G lo lo' : Nat} (h : KeepLo a b G lo) (hl : lo' ≤ lo) : KeepLo a b G lo' := fun o v ho hv => h o v (by omega) hv
set_option maxRecDepth 100000 in
theorem KeepLo.turn {a b : World} {G lo : Nat} {S : Nat → Prop} (t : Turn S a b) (hS : ¬ S G) : KeepLo a b G lo := fun o v _ hv => t.cell hv hS
set_option maxRecDepth 100000 in
theorem KeepLo.setCell (w : World) (G o : Nat) (v : Value) : KeepLo w (w.setCell ⟨G, o, none⟩ v) G o := fun o' u ho hu => by
  rw [World.cell?_setCell_other _ _ _ _ (fun e => by injection e with e1 e2; omega)]; exact hu
set_option maxRecDepth 100000 in
theorem KeepLo.setCells (w : World) (G o : Nat) (vs : List Value) : KeepLo w (w.setCells G o vs) G o := fun o' u ho hu => by
  rw [World.cell?_setCells_out G vs o w ⟨G, o', none⟩ (fun _ _ => .inl ho)]; exact hu
set_option maxRecDepth 100000 in
theorem KeepLo.range {a b : World} {G lo o : Nat} {cs : List Value} (h : KeepLo a b G lo) (hr : a.rangeAt G o cs) (hl : o + cs.length ≤ lo) : b.rangeAt G o cs := fun j v hj => h _ _ (by have := (List.getElem?_eq_some_iff.1 hj).1; omega) (hr j v hj)
set_option maxRecDepth 100000 in
theorem range_app {w : World} {b o : Nat} {xs ys : List Value} (h : w.rangeAt b o xs) (k : w.rangeAt b (o + xs.length) ys) : w.rangeAt b o (xs ++ ys) := fun j v hj => by
  by_cases hl : j < xs.length
  · rw [List.getElem?_append_left hl] at hj; exact h j v hj
  · rw [List.getElem?_append_right (by omega)] at hj
    have := k _ v hj
    rwa [show o + xs.length + (j - xs.length) = o + j by omega] at this
set_option maxRecDepth 100000 in
theorem range_one {w : World} {b o : Nat} {u : Value} (h : w.cell? ⟨b, o, none⟩ = some u) : w.rangeAt b o [u] := fun j v hj => by
  obtain rfl : j = 0 := by have := (List.getElem?_eq_some_iff.1 hj).1; simp at this; omega
  simp at hj
  rw [← hj]; exact h
set_option maxRecDepth 100000 in
theorem cell_set {w : World} {b o : Nat} {v u : Value} (h : w.cell? ⟨b, o, none⟩ = some v) : (w.setCell ⟨b, o, none⟩ u).cell? ⟨b, o, none⟩ = some u := by
  exact World.cell?_setCell_same _ _ _ h
set_option maxRecDepth 100000 in
theorem own_sln {w : World} {B n c : Nat} {e : TypeId} {A : Option Addr} {xs : List Value} (h : w.ownsRow B e 1 (.slice A n c) n xs) : SlN w (fun i => i < B) A xs := fun j u hu => by
  rcases h.2 with ⟨e, h0⟩ | ⟨g, cap, cur, e, hB, hg, hc, hm, hcs, ht⟩
  · have hl := h.1
    injection e with e1 e2 e3
    subst e2
    have : xs = [] := List.eq_nil_of_length_eq_zero (by omega)
    subst this; simp at hu
  · injection e with e1 e2 e3
    subst e1
    exact ⟨_, rfl, by show ¬ g < B; omega, h.cells (g := g) rfl j u hu⟩
/-- The first k inputs of a row. -/
def RowIns (w : World) (K G : Nat) (l : List Pin) : Prop := ∀ i p, l[i]? = some p → p.ok ∧ ∃ S c, BtN w (fun i => i < K) S c p.b ∧ w.rangeAt G (i * 35) (p.cells S c)
end
section
set_option linter.unusedVariables false
set_option linter.unusedSimpArgs false

open Go.RowKit
/-- The first k outputs of a row. -/
def RowOus (w : World) (G : Nat) (l : List Pout) : Prop := ∀ i p, l[i]? = some p → p.ok ∧ w.rangeAt G (i * 33) p.cells
end
section
set_option linter.unusedVariables false
set_option linter.unusedSimpArgs false

open Go.RowKit
def txC (Ai : Option Addr) (ci : Nat) (Ao : Option Addr) (co : Nat) (t : Ptx) : Array Value := #[.slice Ai t.ins.length ci, .slice Ao t.outs.length co, .int .u64 (t.fee : Int), .int .i64 t.exp]
set_option maxRecDepth 100000 in
theorem row4 {w : World} {x : Nat} {a b c d : Value} {t : TypeId} (h : w.heap[x]? = some (.cells #[a, b, c, d] t (0, 0))) :
    (w.cell? ⟨x, 0, none⟩ = some a ∧ w.cell? ⟨x, 1, none⟩ = some b ∧ w.cell? ⟨x, 2, none⟩ = some c ∧ w.cell? ⟨x, 3, none⟩ = some d) ∧ (w.frozen? ⟨x, 0, none⟩ = false ∧ w.frozen? ⟨x, 1, none⟩ = false ∧ w.frozen? ⟨x, 2, none⟩ = false ∧ w.frozen? ⟨x, 3, none⟩ = false) := by
  refine ⟨⟨?_, ?_, ?_, ?_⟩, frozen_of_row w x 0 _ _ h, frozen_of_row w x 1 _ _ h, frozen_of_row w x 2 _ _ h, frozen_of_row w x 3 _ _ h⟩ <;> rw [cell_of_row _ _ _ _ _ _ h] <;> rfl
set_option maxRecDepth 100000 in
theorem set_turn (w : World) (x o : Nat) (v : Value) : Turn (fun i => i = x) w (w.setCell ⟨x, o, none⟩ v) := (Turn.refl _ _).setCell _ _ (fun _ => rfl)
end
section
set_option linter.unusedVariables false
set_option linter.unusedSimpArgs false

open Go.RowKit
set_option maxRecDepth 100000 in
theorem eNum_le {m : Nat} {l : List B8} (h : eNum m l = 0) : numV l ≤ m ∧ numV l < 18446744073709551616 := by
  unfold eNum at h
  split at h
  · omega
  · rename_i h0
    have := numV_lt l (by omega)
    split at h <;> omega
set_option maxRecDepth 100000 in
theorem bodV_ok {b : List B8} (h : bodE b = 0) : (bodV b).ins.length ≤ 16 ∧ (bodV b).outs.length ≤ 16 ∧ (bodV b).fee < 18446744073709551616 ∧ 0 ≤ (bodV b).exp ∧ (bodV b).exp ≤ 1099511627776 := by
  unfold bodE at h
  split at h
  · omega
  · rename_i h1
    split at h
    · omega
    · rename_i h2
      split at h
      · omega
      · rename_i h3
        have a1 : eNum 16 b = 0 := by
          have h1' : rinsE b = 0 := by omega
          unfold rinsE at h1'
          split at h1' <;> omega
        have a2 : eNum 16 (rinsR b) = 0 := by
          have h2' : rousE (rinsR b) = 0 := by omega
          unfold rousE at h2'
          split at h2' <;> omega
        have b1 := eNum_le a1
        have b2 := eNum_le a2
        have b3 := eNum_le (m := topN) (l := rousR (rinsR b)) (by omega)
        have b4 := eNum_le h
        unfold bodV rinsV rousV
        simp only [insV_len, ousV_len]
        omega
set_option maxRecDepth 100000 in
theorem set4 {w : World} {x : Nat} {a b c d : Value} {t : TypeId} (h : w.heap[x]? = some (.cells #[a, b, c, d] t (0, 0))) (a' b' c' d' : Value) :
    ((((w.setCell ⟨x, 0, none⟩ a').setCell ⟨x, 1, none⟩ b').setCell ⟨x, 2, none⟩ c').setCell ⟨x, 3, none⟩ d').heap[x]? = some (.cells #[a', b', c', d'] t (0, 0)) ∧
    Turn (fun i => i = x) w ((((w.setCell ⟨x, 0, none⟩ a').setCell ⟨x, 1, none⟩ b').setCell ⟨x, 2, none⟩ c').setCell ⟨x, 3, none⟩ d') := by
  have h1 := heap_setCell_same w x 0 _ _ a' h
  have h2 := heap_setCell_same _ x 1 _ _ b' h1
  have h3 := heap_setCell_same _ x 2 _ _ c' h2
  have h4 := heap_setCell_same _ x 3 _ _ d' h3
  refine ⟨by rw [h4]; rfl, ?_⟩
  exact ((((Turn.refl (fun i => i = x) w).setCell _ _ (fun _ => rfl)).setCell _ _ (fun _ => rfl)).setCell _ _ (fun _ => rfl)).setCell _ _ (fun _ => rfl)
set_option maxRecDepth 100000 in
theorem results_tx {fn : Func} {p u : Tmp} (h : fn.results = #[.cell p 35, .tmp u]) (tmps : Array Value) (w : World) (g : Nat) (cs : Array Value) (v : Value)
    (hp : tmps.getD p undef = .pointer (some ⟨g, 0, none⟩)) (hv : tmps.getD u undef = v) (hg : w.heap[g]? = some (.cells cs 35 (0, 0))) (hc : cs.size = 4) :
    (results fn tmps).run Tryd.prog w = .ok (.tuple #[.agg cs, v]) w := by
  rw [results_cell_tmp h, hp, hv]
  simp [asAddr, run_loadVar_row w g 35 35 cs (0, 0) _ hg Tryd.underlying35 rfl (by rw [hc]; kernel_rfl), Result.andThen]
set_option maxRecDepth 100000 in
theorem exZ_at (w : World) (B : Nat) : TxAt w B none 0 none 0 exZ := ⟨fun i p hp => by simp [exZ] at hp, fun _ => rfl, by simp [exZ], by simp [exZ], fun i p hp => by simp [exZ] at hp, fun _ => rfl, by simp [exZ], by simp [exZ], by simp [exZ], by simp [exZ], by simp [exZ]⟩
end
section
set_option linter.unusedVariables false

open Go.RowKit
def ptLoad (v : Value) : Sem Value := Instr.loadAt 25 v
set_option maxRecDepth 100000 in
theorem loadAt_pt (v : Value) : Instr.loadAt 25 v = ptLoad v := rfl
set_option maxRecDepth 100000 in
theorem run_ptLoad (w : World) (b o : Nat) : (ptLoad (.pointer (some ⟨b, o, none⟩))).run Tryd.prog w = (match rowOf w b o 33 with | some C => .ok (.agg C) w | none => loadRest Tryd.prog 25 b o w) := by
  unfold ptLoad
  cases h : rowOf w b o 33 with
  | none => rfl
  | some C =>
    obtain ⟨hs, hr⟩ := rowOf_some h
    have := run_loadAt_mid w b o 25 C.toList _ hr Tryd.underlying25 rfl (by rw [Array.length_toList, hs]; kernel_rfl)
    simpa using this
def outLoad (v : Value) : Sem Value := Instr.loadAt 60 v
set_option maxRecDepth 100000 in
theorem loadAt_out (v : Value) : Instr.loadAt 60 v = outLoad v := rfl
set_option maxRecDepth 100000 in
theorem run_outLoad (w : World) (b o : Nat) : (outLoad (.pointer (some ⟨b, o, none⟩))).run Tryd.prog w = (match rowOf w b o 33 with | some C => .ok (.agg C) w | none => loadRest Tryd.prog 60 b o w) := by
  unfold outLoad
  cases h : rowOf w b o 33 with
  | none => rfl
  | some C =>
    obtain ⟨hs, hr⟩ := rowOf_some h
    have := run_loadAt_mid w b o 60 C.toList _ hr Tryd.underlying60 rfl (by rw [Array.length_toList, hs]; kernel_rfl)
    simpa using this
set_option maxRecDepth 100000 in
/-- The point of an input in a row. -/
theorem Pin.ptAt {w : World} {b o : Nat} {p : Pin} {S : Option Addr} {c : Nat} (h : w.rangeAt b o (p.cells S c)) (hd : p.d.length = 32) : rowOf w b o 33 = some (recV p.d (.int .i64 p.x)).toArray := by
  refine rowOf_eq (recV_len _ _ hd) (fun j v hj => h j v ?_)
  have e : p.cells S c = recV p.d (.int .i64 p.x) ++ [.int .u64 (p.n : Int), .slice S p.b.length c] := by simp [Pin.cells, recV]
  rw [e, List.getElem?_append_left (List.getElem?_eq_some_iff.1 hj).1]; exact hj
set_option maxRecDepth 100000 in
theorem Pin.rc {w : World} {b o : Nat} {p : Pin} {S : Option Addr} {c : Nat} (h : w.rangeAt b o (p.cells S c)) (hd : p.d.length = 32) :
    w.cell? ⟨b, o + 32, none⟩ = some (.int .i64 p.x) ∧ w.cell? ⟨b, o + 33, none⟩ = some (.int .u64 (p.n : Int)) ∧ w.cell? ⟨b, o + 34, none⟩ = some (.slice S p.b.length c) := by
  obtain ⟨a, b', d⟩ := p.at S c hd
  exact ⟨h 32 _ a, h 33 _ b', h 34 _ d⟩
set_option maxRecDepth 100000 in
theorem Pout.rc {w : World} {b o : Nat} {p : Pout} (h : w.rangeAt b o p.cells) (hd : p.d.length = 32) : w.cell? ⟨b, o + 32, none⟩ = some (.int .u64 (p.n : Int)) := h 32 _ (p.at hd)
set_option maxRecDepth 100000 in
theorem Pout.rowAt {w : World} {b o : Nat} {p : Pout} (h : w.rangeAt b o p.cells) (hd : p.d.length = 32) : rowOf w b o 33 = some (recV p.d (.int .u64 (p.n : Int))).toArray := rowOf_eq (recV_len _ _ hd) h
set_option maxRecDepth 100000 in
theorem eql_out (p q : Pout) (hp : p.d.length = 32) (hq : q.d.length = 32) (w : World) :
    (binOp .eql 60 (.agg (recV p.d (.int .u64 (p.n : Int))).toArray) (.agg (recV q.d (.int .u64 (q.n : Int))).toArray)).run Tryd.prog w = .ok (.bool (decide (p = q))) w := by
  have h := eq_rec 60 33 .u64 "Owner" "Amount" (by kernel_rfl) (by decide) (by decide) (by kernel_rfl) (by kernel_rfl) Tryd.underlying33 p.d q.d (p.n : Int) (q.n : Int) hp hq w
  rw [h]
  congr 2
  rw [decide_eq_decide]
  cases p; cases q; simp; omega

end
section
set_option linter.unusedVariables false
set_option linter.unusedSimpArgs false

open Go.RowKit
attribute [local go_sem ↓] loadAt_pt
attribute [local go_sem] rowOf_drew rowOf_drewN run_ptLoad
set_option maxRecDepth 100000 in
theorem newOne (w : World) (x : Value) (t : TypeId) : ∀ (j : Nat) (u : Value), [x][j]? = some u → ∃ ad, some (⟨w.heap.size, 0, none⟩ : Addr) = some ad ∧ (w.alloc (.cells #[x] t)).cell? (ad.add j) = some u := fun j u hu => ⟨_, rfl, World.news_of_block (heap_alloc_new w (.cells #[x] t)) j u hu⟩
set_option maxRecDepth 100000 in
theorem any_take_false {g : Pin → Bool} {l : List Pin} {k : Nat} (hk : k < l.length) (h : g l[k] = true) : l.any g = true := List.any_eq_true.2 ⟨_, List.getElem_mem hk, h⟩
set_option maxRecDepth 100000 in
theorem insN_take_succ {l : List Pin} {k : Nat} (h : k < l.length) : insN (l.take (k + 1)) = insN (l.take k) ++ [l[k].n] := by unfold insN; rw [List.take_succ_eq_append_getElem h, List.map_append]; rfl
set_option maxRecDepth 100000 in
theorem outsN_take_succ {l : List Pout} {k : Nat} (h : k < l.length) : outsN (l.take (k + 1)) = outsN (l.take k) ++ [l[k].n] := by unfold outsN; rw [List.take_succ_eq_append_getElem h, List.map_append]; rfl
set_option maxRecDepth 100000 in
theorem zeroB_app (a b : List Nat) : zeroB (a ++ b) = (zeroB a || zeroB b) := by unfold zeroB; rw [List.any_append]
set_option maxRecDepth 100000 in
theorem zeroB_one (n : Nat) : zeroB [n] = ((n : Int) == 0) := by
  unfold zeroB; rw [Bool.eq_iff_iff]; simp
set_option maxRecDepth 100000 in
theorem u64s_app (a : List Nat) (n : Nat) : u64s (a ++ [n]) = u64s a ++ [.int .u64 (n : Int)] := by unfold u64s; rw [List.map_append]; rfl
set_option maxRecDepth 100000 in
theorem u64s_len (a : List Nat) : (u64s a).length = a.length := by simp [u64s]
set_option maxRecDepth 100000 in
theorem chk4 {t : Ptx} (h : withinB t = false) : chk t = 4 := by unfold chk; rw [if_pos h]
set_option maxRecDepth 100000 in
theorem chk7 {t : Ptx} (h : withinB t = true) (h2 : twiceB t.ins = true) : chk t = 7 := by unfold chk; rw [if_neg (by rw [h]; decide), if_pos h2]
set_option maxRecDepth 100000 in
theorem chk8 {t : Ptx} (h : withinB t = true) (h2 : twiceB t.ins = false) (h3 : (zeroB (insN t.ins) || zeroB (outsN t.outs)) = true) : chk t = 8 := by
  unfold chk; rw [if_neg (by rw [h]; decide), if_neg (by rw [h2]; decide), if_pos (by simpa using h3)]
set_option maxRecDepth 100000 in
theorem chk9 {t : Ptx} (h : withinB t = true) (h2 : twiceB t.ins = false) (h3 : (zeroB (insN t.ins) || zeroB (outsN t.outs)) = false) : chk t = balE (insN t.ins) (outsN t.outs ++ [t.fee]) := by
  unfold chk; rw [if_neg (by rw [h]; decide), if_neg (by rw [h2]; decide), if_neg (by simp at h3; simp [h3])]
set_option maxRecDepth 100000 in
set_option maxHeartbeats 8000000 in
theorem rcheck_any (Ai Ao : Option Addr) (ci co B : Nat) (t : Ptx) (w : World) (h : TxAt w B Ai ci Ao co t) :
    Calls Tryd.prog 19 #[txV Ai ci Ao co t] w fun e w' => e = .returned (.int .i64 ((chk t : Nat) : Int)) ∧ Turn (fun _ => False) w w' := by
  obtain ⟨i0, hi, hz0, hz1, hz2⟩ := info_parts info_u64
  obtain ⟨w0, hw0⟩ : ∃ w0, w0 = w.alloc (.cells #[.slice Ai t.ins.length ci, .slice Ao t.outs.length co, .int .u64 (t.fee : Int), .int .i64 t.exp] 35) := ⟨_, rfl⟩
  have hT0 : Turn (fun _ => False) w w0 := by rw [hw0]; exact (Turn.refl _ _).alloc _
  have hg0 : w0.heap[w.heap.size]? = some (.cells #[.slice Ai t.ins.length ci, .slice Ao t.outs.length co, .int .u64 (t.fee : Int), .int .i64 t.exp] 35 (0, 0)) := by rw [hw0]; exact heap_alloc_new _ _
  have HGX := Lib.hid hg0
  have CF := Lib.hid (fun (w' : World) (k : Turn (fun _ => False) w0 w') => (row4 (k.heap hg0 (fun h => h))).1)
  obtain ⟨c0, c1, c2, c3⟩ := CF.out w0 (Turn.refl _ _)
  have him := h.im
  have hom := h.om
  unfold maxLen at him hom
  have x0 := h.x0
  have x1 := h.x1
  have hfee := h.fee
  have HI := Lib.hid (h.ins.turn hT0 (fun _ _ h => h))
  have HO := Lib.hid (h.outs.turn hT0 (fun _ _ h => h))
  have HT0 := Lib.hid hT0
  have K4 := Lib.hid (@chk4 t)
  have K7 := Lib.hid (@chk7 t)
  have K8 := Lib.hid (@chk8 t)
  have K9 := Lib.hid (@chk9 t)
  have HL1 := Lib.hid (u64s_lt fun p hp => (h.ins.oks p hp).n)
  have HL2 := Lib.hid (show ∀ x ∈ outsN t.outs ++ [t.fee], x < 18446744073709551616 from fun x hx => by
    rcases List.mem_append.1 hx with hx | hx
    · simp only [outsN, List.mem_map] at hx
      obtain ⟨p, hp, rfl⟩ := hx
      exact (h.outs.oks p hp).n
    · simp at hx; omega)
  generalize chk t = zc at *
  unfold txV
  by_cases hcnt : 1 ≤ t.ins.length ∧ t.ins.length ≤ 16 ∧ 1 ≤ t.outs.length ∧ t.outs.length ≤ 16 ∧ 0 ≤ t.exp ∧ t.exp ≤ 1099511627776
  · have HW := Lib.hid (withinB_yes1 hcnt)
    obtain ⟨h1, h2, h3, h4, h5, h6⟩ := hcnt
    have e1 : ¬ (t.ins.length : Int) < 1 := by omega
    have e2 : ¬ (16 : Int) < (t.ins.length : Int) := by omega
    have e3 : ¬ (t.outs.length : Int) < 1 := by omega
    have e4 : ¬ (16 : Int) < (t.outs.length : Int) := by omega
    have e5 : ¬ t.exp < 0 := by omega
    have e6 : ¬ (1099511627776 : Int) < t.exp := by omega
    clear h hT0 hg0
    go_enter Tryd.func19, Tryd.ntmps19
    go_upto_region 1 with fail
    change Code.wp _ _ _ _ (w.alloc (.cells #[.slice Ai t.ins.length ci, .slice Ao t.outs.length co, .int .u64 (t.fee : Int), .int .i64 t.exp] 35))
    rw [← hw0]
    clear hw0
    go_wp2
    go_loop [3] (fun i => ∃ k : Nat, k ≤ t.ins.length ∧ i = .int .i64 k ∧ (t.ins.take k).any outB = false) (fun i => t.ins.length - (intOf i).toNat)
    case atStart => exact ⟨0, Nat.zero_le _, rfl, rfl⟩
    case round =>
      obtain ⟨k, hk, rfl, ha⟩ := hrel
      by_cases hlt : k < t.ins.length
      · obtain ⟨hok, b, o, S, cp, rfl, hbb, hs, hr⟩ := HI.out k t.ins[k] (List.getElem?_eq_getElem hlt)
        obtain ⟨d0, d1, d2⟩ := Pin.rc hr hok.d
        have HNX := Lib.hid (fun h1 => any_take_succ outB t.ins k hlt ha h1)
        have HHIT := Lib.hid (fun h1 => any_take_false (g := outB) hlt h1)
        obtain ⟨p, hp⟩ : ∃ p, p = t.ins[k] := ⟨_, rfl⟩
        rw [← hp] at d0 d1 d2 hok HNX HHIT
        have hpm := hok.m
        unfold maxLen at hpm
        have y0 := hok.x0
        have y1 := hok.x1
        cases hob : outB p
        · obtain ⟨f1, f2, f3⟩ := outB_false hob
          have HN := Lib.hid (HNX.out hob)
          have g1 : ¬ (64 : Int) < (p.b.length : Int) := by omega
          have g2 : ¬ p.x < 0 := by omega
          have g3 : ¬ (15 : Int) < p.x := by omega
          clear hr hok hp hs ha hob HNX HHIT
          go_wp2
          go_round
          case rel => exact ⟨k + 1, by omega, by go_num, HN.out⟩
          case measure => simp [intOf]; omega
        · have HWF := Lib.hid (K4.out (by rw [HW.out, HHIT.out hob]; rfl))
          have HOB := Lib.hid (show ¬ (p.b.length ≤ 64 ∧ 0 ≤ p.x ∧ p.x ≤ 15) from fun h => by rw [outB_no (by omega)] at hob; cases hob)
          generalize p.b.length = bl at *
          clear hr hok hp hs ha hob HNX HHIT
          go_wp2
          all_goals
            first
              | (go_ret; exact ⟨ret_int (by rw [HWF.out]; rfl), HT0.out⟩)
              | (exfalso; have := HOB.out; omega)
      · obtain rfl : k = t.ins.length := by omega
        rw [List.take_length] at ha
        have hw1 : withinB t = true := by rw [HW.out, ha]; rfl
        have HW1 := Lib.hid hw1
        clear ha hw1 HW
        go_wp2
        go_loopw [4, 6, 7] (fun v z i wr => ∃ k : Nat, k ≤ t.ins.length ∧ i = .int .i64 k ∧ z = .bool (zeroB (insN (t.ins.take k))) ∧ (List.range k).any (twAt t.ins) = false ∧ wr.ownsRow w0.heap.size 33 1 v k (u64s (insN (t.ins.take k))) ∧ Turn (fun _ => False) w0 wr) (fun _ _ i _ => t.ins.length - (intOf i).toNat)
        case atStart => exact ⟨0, Nat.zero_le _, rfl, rfl, rfl, World.ownsRow_nil _ _ _ _, Turn.refl _ _⟩
        case round =>
          clear c0 c1 c2 c3
          obtain ⟨k, hk, rfl, rfl, htw, hown, ht⟩ := hrel
          obtain ⟨c0, c1, c2, c3⟩ := CF.out _ ht
          have HTR := Lib.hid ht
          have HOW := Lib.hid hown
          have HTW := Lib.hid htw
          clear hown htw
          by_cases hlt : k < t.ins.length
          · obtain ⟨hok, b, o, S, cp, rfl, hbb, hs, hr⟩ := (HI.out.turn ht (fun _ _ h => h)) k t.ins[k] (List.getElem?_eq_getElem hlt)
            have hrk := Pin.ptAt hr hok.d
            have HRK := Lib.hid hr
            have HTA := Lib.hid (twAt_at hlt)
            have HH7 := Lib.hid (fun h1 => K7.out HW1.out (twiceB_hit hlt h1))
            have HNX := Lib.hid (fun h1 => range_any_succ (twAt t.ins) k HTW.out h1)
            have HINS := Lib.hid (insN_take_succ hlt)
            obtain ⟨q, hq⟩ : ∃ q, q = t.ins[k] := ⟨_, rfl⟩
            rw [← hq] at hrk hok HTA HRK HINS
            have HQK := Lib.hid hok
            have HQL := Lib.hid (show t.ins[k]? = some q by rw [hq]; exact List.getElem?_eq_getElem hlt)
            obtain ⟨PK, hPK⟩ : ∃ PK, PK = (recV q.d (.int .i64 q.x)).toArray := ⟨_, rfl⟩
            rw [← hPK] at hrk
            have HPK := Lib.hid hPK
            have HIR := Lib.hid (HI.out.turn ht (fun _ _ h => h))
            clear hr hok hs hq hPK ht
            go_wp2
            go_loopw [8] (fun i wr2 => ∃ (j m : Nat), j ≤ k ∧ i = .int .i64 j ∧ (t.ins.take j).any (fun p => samePt p q) = false ∧ wr2 = wr.drewN m) (fun i _ => k - (intOf i).toNat)
            case atStart => exact ⟨0, 0, Nat.zero_le _, rfl, rfl, rfl⟩
            case round =>
              obtain ⟨j, m, hj, rfl, haj, rfl⟩ := hrel
              by_cases hjk : j < k
              · have hjl : j < t.ins.length := by omega
                obtain ⟨hokj, b', o', S', cp', e', hbb', hs', hr'⟩ := HIR.out j t.ins[j] (List.getElem?_eq_getElem hjl)
                injection e' with e'
                injection e' with e1' e2' e3'
                subst e1' e2'
                have hrj := Pin.ptAt hr' hokj.d
                have HNJ := Lib.hid (fun h1 => any_take_succ (fun p => samePt p q) t.ins j hjl haj h1)
                have HHJ := Lib.hid (fun h1 : samePt t.ins[j] q = true => show twAt t.ins k = true from by
                  rw [HTA.out]
                  exact List.any_eq_true.2 ⟨t.ins[j], by rw [List.mem_take_iff_getElem]; exact ⟨j, by omega, rfl⟩, h1⟩)
                obtain ⟨p, hp⟩ : ∃ p, p = t.ins[j] := ⟨_, rfl⟩
                rw [← hp] at hrj hokj HNJ HHJ
                have he := eql_point p q hokj.d HQK.out.d
                obtain ⟨PJ, hPJ⟩ : ∃ PJ, PJ = (recV p.d (.int .i64 p.x)).toArray := ⟨_, rfl⟩
                rw [← hPJ] at hrj he
                rw [← HPK.out] at he
                have c0' : (wr.drewN m).cell? ⟨w.heap.size, 0, none⟩ = some (.slice (some ⟨b, o, none⟩) t.ins.length ci) := c0
                clear hr' hs' hokj hp hPJ haj
                cases hsp : samePt p q
                · rw [hsp] at he
                  have HN := Lib.hid (HNJ.out hsp)
                  clear hsp HNJ HHJ
                  go_wp2
                  go_quiet (fail)
                  go_wp2
                  go_roundw
                  case rel => exact ⟨j + 1, m + nq, by omega, by go_num, HN.out, by first | rfl | rw [drewN_add]⟩
                  case measure => simp [intOf]; omega
                · rw [hsp] at he
                  have HN := Lib.hid (HH7.out (HHJ.out hsp))
                  clear hsp HNJ HHJ
                  go_wp2
                  go_quiet (fail)
                  go_wp2
                  go_ret
                  exact ⟨ret_int (by rw [HN.out]; rfl), HT0.out.trans ((HTR.out.drewN m).drewN nq) (fun _ _ h => h)⟩
              · obtain rfl : j = k := by omega
                have HTF := Lib.hid (HNX.out (by rw [HTA.out]; exact haj))
                have ht1 : Turn (fun _ => False) wr (wr.drewN m) := (Turn.refl _ _).drewN m
                have HOW1 := Lib.hid (ht1.own HOW.out (fun _ _ h => h))
                have HT1 := Lib.hid (HTR.out.trans ht1 (fun _ _ h => h))
                have hrc := Pin.rc (ht1.range HRK.out (fun h => h)) HQK.out.d
                have hqn := HQK.out.n
                clear c0 c1 c2 c3 hrk haj ht1
                obtain ⟨d32, d33, d34⟩ := hrc
                obtain ⟨c0, c1, c2, c3⟩ := CF.out _ HT1.out
                have HZ := Lib.hid (show zeroB (insN (t.ins.take (j + 1))) = (zeroB (insN (t.ins.take j)) || ((q.n : Int) == 0)) by rw [HINS.out, zeroB_app, zeroB_one])
                have HU := Lib.hid (show u64s (insN (t.ins.take (j + 1))) = u64s (insN (t.ins.take j)) ++ [.int .u64 (q.n : Int)] by rw [HINS.out, u64s_app])
                have HRK1 := Lib.hid (show (wr.drewN m).rangeAt b (o + j * 35) (q.cells S cp) from HRK.out)
                generalize wr.drewN m = w1 at *
                generalize zeroB (insN (t.ins.take j)) = zb at *
                go_wp2_with (at_builtin; refine stop ?_)
                unfold Stop
                refine wpList_append_any (o := ⟨some 114, _, _, _, _, _⟩) rfl _ _ 64 rfl w0.heap.size 33 i0 (.int .u64 0) 8 Tryd.underlying64 hi hz0 hz1 hz2 rfl _ j _ rfl (HOW1.out.alloc _) (some ⟨w1.heap.size, 0, none⟩) 1 1 [.int .u64 (q.n : Int)] rfl (fun h => by cases h) rfl (newOne w1 _ _) (by intro u hu; simp at hu; rw [hu]; rfl) (by unfold maxLen; omega) (by omega) (by have := HT1.out.size; simp; omega) ?_
                intro v3 w3 g1 g2
                have HO3 := Lib.hid g1
                have ht3 : Turn (fun _ => False) w0 w3 := (HT1.out.alloc _).grown g2 (fun i hi e => by have := (HOW1.out.lt i e.symm).1; omega)
                obtain ⟨-, b2, o2, S2, cp2, e2', -, -, hr2⟩ := (HI.out.turn ht3 (fun _ _ h => h)) j q HQL.out
                injection e2' with e2'
                injection e2' with e21 e22 e23
                subst e21 e22
                obtain ⟨-, f33, -⟩ := Pin.rc hr2 HQK.out.d
                have HT3 := Lib.hid ht3
                clear c0 c1 c2 c3 d32 d33 d34 g1 g2 hr2
                obtain ⟨c0, c1, c2, c3⟩ := CF.out _ ht3
                clear ht3
                cases zb
                · go_wp2
                  go_roundw
                  case rel => exact ⟨j + 1, by omega, by go_num, by rw [HZ.out]; rfl, HTF.out, by rw [HU.out]; exact HO3.out, HT3.out⟩
                  case measure => simp [intOf]; omega
                · go_wp2
                  go_roundw
                  case rel => exact ⟨j + 1, by omega, by go_num, by rw [HZ.out]; rfl, HTF.out, by rw [HU.out]; exact HO3.out, HT3.out⟩
                  case measure => simp [intOf]; omega
          · obtain rfl : k = t.ins.length := by omega
            have HOW2 := Lib.hid (show wr.ownsRow w0.heap.size 33 1 u4 t.ins.length (u64s (insN t.ins)) by have := HOW.out; rwa [List.take_length] at this)
            obtain ⟨A4, k4, rfl, hs4, -, hk4, ha4⟩ := own_sl HOW2.out
            have HS4 := Lib.hid hs4
            have HTWF := Lib.hid (show twiceB t.ins = false by rw [twiceB_eq]; exact HTW.out)
            rw [List.take_length]
            generalize hzb : zeroB (insN t.ins) = zb at *
            clear HOW HOW2 HTW hs4 ht hk4 ha4
            clear c0 c1 c2 c3
            obtain ⟨c0, c1, c2, c3⟩ := CF.out _ HTR.out
            go_wp2
            generalize wr = wk at *
            go_loopw [5, 6, 9] (fun v z i wr => ∃ k : Nat, k ≤ t.outs.length ∧ i = .int .i64 k ∧ z = .bool (zb || zeroB (outsN (t.outs.take k))) ∧ wr.ownsRow wk.heap.size 33 1 v k (u64s (outsN (t.outs.take k))) ∧ Turn (fun _ => False) wk wr) (fun _ _ i _ => t.outs.length - (intOf i).toNat)
            case atStart => exact ⟨0, Nat.zero_le _, rfl, by cases zb <;> rfl, World.ownsRow_nil _ _ _ _, Turn.refl _ _⟩
            case round =>
              clear c0 c1 c2 c3
              obtain ⟨k, hk, rfl, rfl, hown, ht5⟩ := hrel
              have HT5 := Lib.hid (HTR.out.trans ht5 (fun _ _ h => h))
              have HV5 := Lib.hid ht5
              have HO5 := Lib.hid hown
              obtain ⟨c0, c1, c2, c3⟩ := CF.out _ HT5.out
              clear hown ht5
              by_cases hlt : k < t.outs.length
              · obtain ⟨hok, b, o, rfl, hbb, hr⟩ := (HO.out.turn HT5.out (fun _ _ h => h)) k t.outs[k] (List.getElem?_eq_getElem hlt)
                have d33 := Pout.rc hr hok.d
                have HINS := Lib.hid (outsN_take_succ hlt)
                obtain ⟨q, hq⟩ : ∃ q, q = t.outs[k] := ⟨_, rfl⟩
                rw [← hq] at d33 hok HINS
                have HQK := Lib.hid hok
                have HQL := Lib.hid (show t.outs[k]? = some q by rw [hq]; exact List.getElem?_eq_getElem hlt)
                have hqn := hok.n
                have HZ := Lib.hid (show (zb || zeroB (outsN (t.outs.take (k + 1)))) = ((zb || zeroB (outsN (t.outs.take k))) || ((q.n : Int) == 0)) by rw [HINS.out, zeroB_app, zeroB_one, Bool.or_assoc])
                have HU := Lib.hid (show u64s (outsN (t.outs.take (k + 1))) = u64s (outsN (t.outs.take k)) ++ [.int .u64 (q.n : Int)] by rw [HINS.out, u64s_app])
                generalize (zb || zeroB (outsN (t.outs.take k))) = z5 at *
                clear hr hok hq
                go_wp2_with (at_builtin; refine stop ?_)
                unfold Stop
                refine wpList_append_any (o := ⟨some 140, _, _, _, _, _⟩) rfl _ _ 64 rfl wk.heap.size 33 i0 (.int .u64 0) 8 Tryd.underlying64 hi hz0 hz1 hz2 rfl _ k _ rfl (HO5.out.alloc _) (some ⟨wr.heap.size, 0, none⟩) 1 1 [.int .u64 (q.n : Int)] rfl (fun h => by cases h) rfl (newOne wr _ _) (by intro u hu; simp at hu; rw [hu]; rfl) (by unfold maxLen; omega) (by omega) (by have := HV5.out.size; simp; omega) ?_
                intro v3 w3 g1 g2
                have HO3 := Lib.hid g1
                have hv3 : Turn (fun _ => False) wk w3 := (HV5.out.alloc _).grown g2 (fun i hi e => by have := (HO5.out.lt i e.symm).1; omega)
                have ht3 := HTR.out.trans hv3 (S := fun _ => False) (fun _ _ h => h)
                obtain ⟨-, b2, o2, e2', -, hr2⟩ := (HO.out.turn ht3 (fun _ _ h => h)) k q HQL.out
                injection e2' with e2'
                injection e2' with e21 e22 e23
                subst e21 e22
                have f33 := Pout.rc hr2 HQK.out.d
                have HV3 := Lib.hid hv3
                clear c0 c1 c2 c3 d33 g1 g2 hr2
                obtain ⟨c0, c1, c2, c3⟩ := CF.out _ ht3
                clear ht3 hv3
                cases z5
                · go_wp2
                  go_roundw
                  case rel => exact ⟨k + 1, by omega, by go_num, by rw [HZ.out]; rfl, by rw [HU.out]; exact HO3.out, HV3.out⟩
                  case measure => simp [intOf]; omega
                · go_wp2
                  go_roundw
                  case rel => exact ⟨k + 1, by omega, by go_num, by rw [HZ.out]; rfl, by rw [HU.out]; exact HO3.out, HV3.out⟩
                  case measure => simp [intOf]; omega
              · obtain rfl : k = t.outs.length := by omega
                rw [List.take_length] at *
                have HO6 := Lib.hid (show wr.ownsRow wk.heap.size 33 1 u5 t.outs.length (u64s (outsN t.outs)) from HO5.out)
                have HS5 := Lib.hid (HV5.out.sl HS4.out (fun _ _ h => h))
                generalize hz5 : (zb || zeroB (outsN t.outs)) = z5 at *
                cases z5
                · have HCK := Lib.hid (K9.out HW1.out HTWF.out (by first | rfl | rw [hzb, hz5]))
                  have HN1 := Lib.hid (insN_len t.ins)
                  have HN2 := Lib.hid (outsN_len t.outs)
                  have RC1 := Lib.hid (fun w' (k : Turn (fun _ => False) wr w') => rall_any A4 k4 wk.heap.size (insN t.ins) w' (k.sl HS5.out (fun _ _ h => h)) (by rw [HN1.out]; unfold maxLen; omega) HL1.out)
                  rw [HN1.out] at RC1
                  have hb : balE (insN t.ins) (outsN t.outs ++ [t.fee]) = if (allV 0 (insN t.ins)).2 ≠ 0 then (allV 0 (insN t.ins)).2 else if (allV 0 (outsN t.outs ++ [t.fee])).2 ≠ 0 then (allV 0 (outsN t.outs ++ [t.fee])).2 else if (allV 0 (insN t.ins)).1 ≠ (allV 0 (outsN t.outs ++ [t.fee])).1 then 9 else 0 := rfl
                  have HRC2 := Lib.hid (fun (A' : Option Addr) (c' B' : Nat) (w' : World) (hs : Sl w' B' A' (u64s (outsN t.outs ++ [t.fee]))) => rall_any A' c' B' (outsN t.outs ++ [t.fee]) w' hs (by rw [List.length_append, HN2.out]; unfold maxLen; simp; omega) HL2.out)
                  have hl2 : (outsN t.outs ++ [t.fee]).length = t.outs.length + 1 := by rw [List.length_append, HN2.out]; rfl
                  rw [hl2] at HRC2
                  rw [← HCK.out] at hb
                  generalize (allV 0 (insN t.ins)).1 = a1 at *
                  generalize (allV 0 (insN t.ins)).2 = a2 at *
                  generalize (allV 0 (outsN t.outs ++ [t.fee])).1 = b1 at *
                  generalize (allV 0 (outsN t.outs ++ [t.fee])).2 = b2 at *
                  have HBE := Lib.hid hb
                  clear hb hl2 HCK hzb hz5
                  go_wp2_with fail
                  refine (RC1.out _ (Turn.refl _ _)).mono ?_
                  rintro r w6 ⟨rfl, rfl⟩
                  by_cases ha2 : a2 ≠ 0
                  · have t1 : ((a2 : Int) != 0) = true := by simp; omega
                    have HZ := Lib.hid (show ((a2 : Nat) : Int) = zc by rw [HBE.out, if_pos ha2])
                    clear ha2
                    go_wp2
                    go_ret
                    exact ⟨ret_int HZ.out, HT0.out.trans HT5.out (fun _ _ h => h)⟩
                  · have t1 : ((a2 : Int) != 0) = false := by simp; omega
                    have HA2 := Lib.hid ha2
                    clear ha2
                    go_wp2_with (at_builtin; refine stop ?_)
                    unfold Stop
                    refine wpList_append_any (o := ⟨some 165, _, _, _, _, _⟩) rfl _ _ 64 rfl wk.heap.size 33 i0 (.int .u64 0) 8 Tryd.underlying64 hi hz0 hz1 hz2 rfl _ t.outs.length _ rfl (HO6.out.alloc _) (some ⟨wr.heap.size, 0, none⟩) 1 1 [.int .u64 (t.fee : Int)] rfl (fun h => by cases h) rfl (newOne wr _ _) (by intro u hu; simp at hu; rw [hu]; rfl) (by unfold maxLen; omega) (by omega) (by have := HV5.out.size; simp; omega) ?_
                    intro v7 w7 g1 g2
                    have hv7 : Turn (fun _ => False) wk w7 := (HV5.out.alloc _).grown g2 (fun i hi e => by have := (HO6.out.lt i e.symm).1; omega)
                    have HV7 := Lib.hid ((HT0.out.trans HTR.out (fun _ _ h => h)).trans hv7 (S := fun _ => False) (fun _ _ h => h))
                    obtain ⟨A7, k7, rfl, hs7, -⟩ := own_sl g1
                    have RC2 := Lib.hid (HRC2.out A7 k7 w7.heap.size w7 (by rw [u64s_app]; exact hs7))
                    clear hv7 g1 g2 hs7
                    go_wp2_with fail
                    refine RC2.out.mono ?_
                    rintro r w8 ⟨rfl, rfl⟩
                    by_cases hb2 : b2 ≠ 0
                    · have t2 : ((b2 : Int) != 0) = true := by simp; omega
                      have HZ := Lib.hid (show ((b2 : Nat) : Int) = zc by rw [HBE.out, if_neg HA2.out, if_pos hb2])
                      clear hb2
                      go_wp2
                      go_ret
                      exact ⟨ret_int HZ.out, HV7.out⟩
                    · have t2 : ((b2 : Int) != 0) = false := by simp; omega
                      by_cases hab : a1 ≠ b1
                      · have t3 : ((a1 : Int) != (b1 : Int)) = true := by simp; omega
                        have HZ := Lib.hid (show (9 : Int) = zc by rw [HBE.out, if_neg HA2.out, if_neg hb2, if_pos hab]; rfl)
                        clear hb2 hab
                        go_wp2
                        go_ret
                        exact ⟨ret_int HZ.out, HV7.out⟩
                      · have t3 : ((a1 : Int) != (b1 : Int)) = false := by simp; omega
                        have HZ := Lib.hid (show (0 : Int) = zc by rw [HBE.out, if_neg HA2.out, if_neg hb2, if_neg hab]; rfl)
                        clear hb2 hab
                        go_wp2
                        go_ret
                        exact ⟨ret_int HZ.out, HV7.out⟩
                · have HCK := Lib.hid (K8.out HW1.out HTWF.out (by first | rfl | rw [hzb, hz5]))
                  clear hzb hz5
                  go_wp2
                  go_ret
                  exact ⟨ret_int (by rw [HCK.out]; rfl), HT0.out.trans HT5.out (fun _ _ h => h)⟩
  · have HWF := Lib.hid (K4.out (withinB_no1 hcnt))
    have HC := Lib.hid hcnt
    generalize t.ins.length = n at *
    generalize t.outs.length = m at *
    generalize t.exp = x at *
    generalize t.fee = f at *
    clear h hcnt hT0 hg0
    go_enter Tryd.func19, Tryd.ntmps19
    go_upto_region 1 with fail
    change Code.wp _ _ _ _ (w.alloc (.cells #[.slice Ai n ci, .slice Ao m co, .int .u64 (f : Int), .int .i64 x] 35))
    rw [← hw0]
    clear hw0
    go_wp2
    all_goals
      first
        | (go_ret; exact ⟨ret_int (by rw [HWF.out]; rfl), HT0.out⟩)
        | (exfalso; have := HC.out; omega)

end
section
set_option linter.unusedVariables false
set_option linter.unusedSimpArgs false

open Go.RowKit
attribute [local go_sem ↓] loadAt_pt loadAt_out
attribute [local go_sem] rowOf_drew rowOf_drewN run_ptLoad run_outLoad
set_option maxRecDepth 100000 in
theorem neq_rec (t ti : TypeId) (k : IntKind) (n0 n1 : String) (hf : (Tryd.prog.fieldsOf t).toList.map (fun f => (f.name, f.type, f.offset)) = [(n0, 23, 0), (n1, ti, 32)]) (h0 : n0 ≠ "_") (h1 : n1 ≠ "_")
    (ht : Tryd.prog.underlying t = some (.struct (Tryd.prog.fieldsOf t))) (hp : Tryd.prog.stoodInHeld t = false) (hi : Tryd.prog.underlying ti = some (.int k)) (a b : List B8) (x y : Int) (ha : a.length = 32) (hb : b.length = 32) (w : World) :
    (binOp .neq t (.agg (recV a (.int k x)).toArray) (.agg (recV b (.int k y)).toArray)).run Tryd.prog w = .ok (.bool (!decide (a = b ∧ x = y))) w := by
  have h := eq_rec t ti k n0 n1 hf h0 h1 ht hp hi a b x y ha hb w
  rw [run_eql_struct] at h
  rw [run_neq_struct]
  generalize (Op.equalIn 10000 t (.agg (recV a (.int k x)).toArray) (.agg (recV b (.int k y)).toArray)).run Tryd.prog w = r at *
  cases r with
  | ok v w1 =>
    simp only [Result.andThen_ok] at h ⊢
    injection h with e1 e2
    injection e1 with e1
    rw [e1, e2]
  | halt v w1 => simp [Result.andThen] at h
set_option maxRecDepth 100000 in
theorem neq_point (p q : Pin) (hp : p.d.length = 32) (hq : q.d.length = 32) (w : World) :
    (binOp .neq 25 (.agg (recV p.d (.int .i64 p.x)).toArray) (.agg (recV q.d (.int .i64 q.x)).toArray)).run Tryd.prog w = .ok (.bool (!samePt p q)) w :=
  neq_rec 25 3 .i64 "Tx" "Index" (by kernel_rfl) (by decide) (by decide) (by kernel_rfl) (by kernel_rfl) Tryd.underlying3 _ _ _ _ hp hq w
set_option maxRecDepth 100000 in
theorem neq_out (p q : Pout) (hp : p.d.length = 32) (hq : q.d.length = 32) (w : World) :
    (binOp .neq 60 (.agg (recV p.d (.int .u64 (p.n : Int))).toArray) (.agg (recV q.d (.int .u64 (q.n : Int))).toArray)).run Tryd.prog w = .ok (.bool (!decide (p = q))) w := by
  rw [neq_rec 60 33 .u64 "Owner" "Amount" (by kernel_rfl) (by decide) (by decide) (by kernel_rfl) (by kernel_rfl) Tryd.underlying33 p.d q.d (p.n : Int) (q.n : Int) hp hq w]
  congr 3
  rw [decide_eq_decide]
  cases p; cases q; simp; omega
def sameB (s t : Ptx) : Bool := decide (s = t)
set_option maxRecDepth 100000 in
theorem same_len {s t : Ptx} (h : ¬ (s.ins.length = t.ins.length ∧ s.outs.length = t.outs.length ∧ s.fee = t.fee ∧ s.exp = t.exp)) : sameB s t = false := by
  unfold sameB; rw [decide_eq_false_iff_not]; rintro rfl; exact h ⟨rfl, rfl, rfl, rfl⟩
set_option maxRecDepth 100000 in
theorem same_in {s t : Ptx} {k : Nat} (hs : k < s.ins.length) (ht : k < t.ins.length) (h : ¬ s.ins[k] = t.ins[k]) : sameB s t = false := by
  unfold sameB; rw [decide_eq_false_iff_not]; rintro rfl; exact h rfl
set_option maxRecDepth 100000 in
theorem same_out {s t : Ptx} {k : Nat} (hs : k < s.outs.length) (ht : k < t.outs.length) (h : ¬ s.outs[k] = t.outs[k]) : sameB s t = false := by
  unfold sameB; rw [decide_eq_false_iff_not]; rintro rfl; exact h rfl
set_option maxRecDepth 100000 in
theorem same_all {s t : Ptx} (h1 : s.ins = t.ins) (h2 : s.outs = t.outs) (h3 : s.fee = t.fee) (h4 : s.exp = t.exp) : sameB s t = true := by
  unfold sameB; rw [decide_eq_true_eq]; cases s; cases t; simp_all
set_option maxRecDepth 100000 in
theorem take_next {α : Type} {a b : List α} {k : Nat} (ha : k < a.length) (hb : k < b.length) (h : a.take k = b.take k) (hk : a[k] = b[k]) : a.take (k + 1) = b.take (k + 1) := by
  rw [List.take_succ_eq_append_getElem ha, List.take_succ_eq_append_getElem hb, h, hk]
set_option maxRecDepth 100000 in
theorem pin_eq {p q : Pin} (h1 : samePt p q = true) (h2 : p.n = q.n) (h3 : p.b = q.b) : p = q := by
  unfold samePt at h1; rw [decide_eq_true_eq] at h1
  cases p; cases q; simp_all
end
end Go.Proofs.YtoclfohgchlpnaaDoor
