/- What turns but some blocks; a slice read; a row appended to. No function of the program is named here. -/
import Derived.Test.YtbnplhdelpbfdaaRateOf
import Derived.Test.YtbnplhdelpbfdaaKit
import Derived.Laws.AppendOwnNone
import Derived.WalkKit
import Derived.WalkLawsBesides
import Derived.Lib.Hide
import Derived.LoopTactic
import Derived.Outline
import Derived.Deep.QuietTactic
import Derived.BigQuiet
import Derived.OpenShut
import Derived.OneCell
import Derived.OneCell
namespace Go.Proofs.Ytbnplhdelpbfdaa
open Go.RowKit

/-- All but the blocks in S is as it was. -/
structure Turn (S : Nat → Prop) (w w' : World) : Prop where
  os : w'.os = w.os
  tape : w'.tape = w.tape
  output : w'.output = w.output
  size : w.heap.size ≤ w'.heap.size
  block : ∀ k, k < w.heap.size → ¬ S k → w'.heap[k]? = w.heap[k]?
section
variable {S S' : Nat → Prop} {a b c w w' : World}
theorem Turn.refl (S : Nat → Prop) (w : World) : Turn S w w := ⟨rfl, rfl, rfl, Nat.le_refl _, fun _ _ _ => rfl⟩
theorem Turn.trans (h : Turn S a b) (k : Turn S' b c) (hS : ∀ i, i < a.heap.size → S' i → S i) : Turn S a c :=
  ⟨k.os.trans h.os, k.tape.trans h.tape, k.output.trans h.output, Nat.le_trans h.size k.size, fun i hi hn => (k.block i (Nat.lt_of_lt_of_le hi h.size) (fun h' => hn (hS i hi h'))).trans (h.block i hi hn)⟩
theorem Turn.mono (h : Turn S' a b) (hS : ∀ i, i < a.heap.size → S' i → S i) : Turn S a b := (Turn.refl S a).trans h hS
theorem Turn.of_grown {r : Option Nat} (h : a.grownBy b r) : Turn (fun i => some i = r) a b := ⟨h.os, h.tape, h.output, h.size, h.block⟩
theorem Turn.grown {r : Option Nat} (h : Turn S a b) (k : b.grownBy c r) (hS : ∀ i, i < a.heap.size → some i = r → S i) : Turn S a c := h.trans (Turn.of_grown k) hS
theorem Turn.alloc (h : Turn S a b) (o : Obj) : Turn S a (b.alloc o) :=
  h.trans (S' := fun _ => False) ⟨rfl, rfl, rfl, by simp, fun k hk _ => Below.heap_alloc _ _ _ hk⟩ (fun _ _ h => h.elim)
theorem Turn.setCell (h : Turn S a b) (p : Addr) (v : Value) (hS : p.block < a.heap.size → S p.block) : Turn S a (b.setCell p v) :=
  h.trans (S' := fun i => i = p.block) ⟨rfl, rfl, rfl, by simp [World.setCell], fun k _ hn => Below.heap_setCell _ _ _ _ hn⟩ (fun i hi e => by subst e; exact hS hi)
theorem Turn.setRow (h : Turn S a b) (g : Nat) (cs : Array Value) (hS : g < a.heap.size → S g) : Turn S a (b.setRow g cs) :=
  h.trans (S' := fun i => i = g) ⟨rfl, rfl, rfl, by simp [World.setRow], fun k _ hn => setRow_other _ _ _ _ hn⟩ (fun i hi e => by subst e; exact hS hi)
theorem Turn.drewN (h : Turn S a b) (n : Nat) : Turn S a (b.drewN n) := ⟨h.os, h.tape, h.output, h.size, h.block⟩
theorem Turn.drew (h : Turn S a b) : Turn S a b.drew := ⟨h.os, h.tape, h.output, h.size, h.block⟩
theorem Turn.of_below (h : Below a.heap.size a b) : Turn (fun _ => False) a b := ⟨h.os, h.tape, h.output, h.size, fun i hi _ => h.block i hi⟩
theorem Turn.below {B : Nat} (h : Turn S a b) (hS : ∀ i, i < a.heap.size → S i → B ≤ i) (hB : B ≤ a.heap.size) : Below B a b :=
  ⟨h.os, h.tape, h.output, h.size, fun i hi => h.block i (by omega) (fun hs => by have := hS i (by omega) hs; omega)⟩
theorem Turn.cell (h : Turn S a b) {p : Addr} {v : Value} (hc : a.cell? p = some v) (hn : ¬ S p.block) : b.cell? p = some v :=
  (World.cell?_of_block (h.block p.block (World.block_lt_of_cell? a _ hc) hn)).trans hc
theorem Turn.heap (h : Turn S a b) {g : Nat} {o : Obj} (hg : a.heap[g]? = some o) (hn : ¬ S g) : b.heap[g]? = some o := (h.block g (lt_of_block hg) hn).trans hg
theorem Turn.sl (h : Turn S a b) {B : Nat} {A : Option Addr} {xs : List Value} (hs : Sl a B A xs) (hn : ∀ i, i < B → ¬ S i) : Sl b B A xs := fun j u hu => by
  obtain ⟨ad, e, hb, hc⟩ := hs j u hu
  exact ⟨ad, e, hb, h.cell hc (by rw [add_block]; exact hn _ hb)⟩
theorem Turn.own (h : Turn S a b) {base n : Nat} {e : TypeId} {v : Value} {xs : List Value} (ho : a.ownsRow base e 1 v n xs) (hn : ∀ g, v.ownBlock = some g → ¬ S g) : b.ownsRow base e 1 v n xs := by
  obtain ⟨h1, h2⟩ := ho
  refine ⟨h1, ?_⟩
  rcases h2 with h2 | ⟨g, cap, cur, rfl, hg, hh, r⟩
  · exact .inl h2
  · exact .inr ⟨g, cap, cur, rfl, hg, h.heap hh (hn g rfl), r⟩
end
theorem own_more {w : World} {base base' n : Nat} {e : TypeId} {v : Value} {xs : List Value} (ho : w.ownsRow base e 1 v n xs) (hb : base' ≤ base) : w.ownsRow base' e 1 v n xs := by
  obtain ⟨h1, h2⟩ := ho
  refine ⟨h1, ?_⟩
  rcases h2 with h2 | ⟨g, cap, cur, rfl, hg, hh, r⟩
  · exact .inl h2
  · exact .inr ⟨g, cap, cur, rfl, by omega, hh, r⟩
theorem own_new (w : World) (B : Nat) (e : TypeId) (cs : List Value) (n : Nat) (hn : cs.length = n) (hB : B ≤ w.heap.size) (hm : n ≤ maxLen) : (w.alloc (.cells cs.toArray e)).ownsRow B e 1 (.slice (some ⟨w.heap.size, 0, none⟩) n n) n cs := by
  refine ⟨by omega, .inr ⟨w.heap.size, n, cs.toArray, rfl, hB, heap_alloc_new _ _, Nat.le_refl _, hm, by simp [hn], ?_⟩⟩
  rw [List.take_of_length_le (by simp; omega)]
/-- A row of one's own, as a slice that is read. -/
theorem own_sl {w : World} {base n : Nat} {e : TypeId} {v : Value} {xs : List Value} (h : w.ownsRow base e 1 v n xs) : ∃ A c, v = .slice A n c ∧ Sl w w.heap.size A xs ∧ xs.length = n ∧ n ≤ c ∧ (A = none → c = 0) := by
  obtain ⟨A, c, rfl, hs, hl⟩ := Sl.of_own h
  refine ⟨A, c, rfl, hs, hl, ?_⟩
  rcases h.2 with ⟨e, h0⟩ | ⟨g, cap, cur, e, _, _, hc, _⟩
  · injection e with e1 e2 e3; subst e1; subst e3; exact ⟨by omega, fun _ => rfl⟩
  · injection e with e1 e2 e3; subst e1; subst e3; exact ⟨hc, fun h => by cases h⟩
theorem Sl.cut {w : World} {B : Nat} {A : Option Addr} {xs : List Value} (h : Sl w B A xs) (cap n : Nat) (hc : xs.length ≤ cap) : Sl w B (if cap = n then A else A.map (·.add n)) (xs.drop n) := fun j u hu => by
  rw [List.getElem?_drop] at hu
  obtain ⟨ad, rfl, hb, hcl⟩ := h (n + j) u hu
  have hlt := (List.getElem?_eq_some_iff.1 hu).1
  refine ⟨ad.add n, ?_, by rw [add_block]; exact hb, by rw [add_add]; exact hcl⟩
  rw [if_neg (by omega)]; rfl
theorem Sl.take {w : World} {B : Nat} {A : Option Addr} {xs : List Value} (h : Sl w B A xs) (n : Nat) : Sl w B A (xs.take n) := fun j u hu => by
  rw [List.getElem?_take] at hu
  split at hu
  · exact h j u hu
  · cases hu
/-- Cells that are read, in no block of N. -/
def SlN (w : World) (N : Nat → Prop) (A : Option Addr) (xs : List Value) : Prop := ∀ j u, xs[j]? = some u → ∃ ad, A = some ad ∧ ¬ N ad.block ∧ w.cell? (ad.add j) = some u
theorem SlN.of {w : World} {B : Nat} {A : Option Addr} {xs : List Value} {N : Nat → Prop} (h : Sl w B A xs) (hN : ∀ i, i < B → ¬ N i) : SlN w N A xs := fun j u hu => by
  obtain ⟨ad, e, hb, hc⟩ := h j u hu
  exact ⟨ad, e, hN _ hb, hc⟩
theorem SlN.turn {S N N' : Nat → Prop} {w w' : World} {A : Option Addr} {xs : List Value} (h : SlN w N A xs) (t : Turn S w w') (hS : ∀ i, S i → N i) (hN : ∀ i, i < w.heap.size → N' i → N i) : SlN w' N' A xs := fun j u hu => by
  obtain ⟨ad, e, hb, hc⟩ := h j u hu
  have hlt := World.block_lt_of_cell? w _ hc
  rw [add_block] at hlt
  exact ⟨ad, e, fun hn => hb (hN _ hlt hn), t.cell hc (by rw [add_block]; exact fun hs => hb (hS _ hs))⟩
theorem SlN.sl {w : World} {N : Nat → Prop} {A : Option Addr} {xs : List Value} (h : SlN w N A xs) : Sl w w.heap.size A xs := fun j u hu => by
  obtain ⟨ad, e, hb, hc⟩ := h j u hu
  have hlt := World.block_lt_of_cell? w _ hc
  rw [add_block] at hlt
  exact ⟨ad, e, hlt, hc⟩
theorem SlN.cut {w : World} {N : Nat → Prop} {A : Option Addr} {xs : List Value} (h : SlN w N A xs) (cap n : Nat) (hc : xs.length ≤ cap) : SlN w N (if cap = n then A else A.map (·.add n)) (xs.drop n) := fun j u hu => by
  rw [List.getElem?_drop] at hu
  obtain ⟨ad, rfl, hb, hcl⟩ := h (n + j) u hu
  have hlt := (List.getElem?_eq_some_iff.1 hu).1
  refine ⟨ad.add n, ?_, by rw [add_block]; exact hb, by rw [add_add]; exact hcl⟩
  rw [if_neg (by omega)]; rfl
theorem SlN.take {w : World} {N : Nat → Prop} {A : Option Addr} {xs : List Value} (h : SlN w N A xs) (n : Nat) : SlN w N A (xs.take n) := fun j u hu => by
  rw [List.getElem?_take] at hu
  split at hu
  · exact h j u hu
  · cases hu
theorem SlN.at {w : World} {N : Nat → Prop} {A : Option Addr} {xs : List Value} (h : SlN w N A xs) {k : Nat} {u : Value} (hk : xs[k]? = some u) : ∃ ad, A = some ad ∧ ¬ N ad.block ∧ w.cell? (ad.add k) = some u := h k u hk
theorem wpList_append_any {P : Program} {w : World} {ops : Array Oper} {rest : List Oper} {o : Oper} {a : Act} {Q : Exit → Act → World → Prop} (hgd : o.guard = none) (s x : Operand) (t : TypeId)
    (ho : o.op = .call { callee := .builtin .append, args := #[s, x], argTypes := #[t, t] })
    (base : Nat) (e : TypeId) (i : TypeInfo) (z : Value) (bytes : Nat) (ht : P.underlying t = some (.slice e)) (hi : P.info? e = some i) (hz : i.zero = some z)
    (hsize : i.size = 1) (hby : i.bytes = bytes) (hzs : z.cells.size = 1)
    (v : Value) (n : Nat) (xs : List Value) (hs : a.eval s = v) (hown : w.ownsRow base e 1 v n xs)
    (A : Option Addr) (m c : Nat) (news : List Value) (hx : a.eval x = .slice A m c) (hA : A = none → c = 0) (hl : news.length = m) (hnews : ∀ (j : Nat) (u : Value), news[j]? = some u → ∃ ad, A = some ad ∧ w.cell? (ad.add j) = some u) (h1 : ∀ u ∈ news, u.oneCell' = true)
    (h63 : n + m ≤ maxLen) (hbytes : (n + m) * bytes ≤ 140737488355328) (hbase : base ≤ w.heap.size)
    (h : ∀ v' w', w'.ownsRow base e 1 v' (n + m) (xs ++ news) → w.grownBy w' v.ownBlock → wpList P ops Q rest (a.put o.dst v') w') : wpList P ops Q (o :: rest) a w := by
  cases A with
  | none =>
    obtain rfl := hA rfl
    have hn : news = [] := by
      cases news with
      | nil => rfl
      | cons u l => obtain ⟨ad, e, _⟩ := hnews 0 u rfl; cases e
    subst hn
    obtain rfl : m = 0 := by simpa using hl.symm
    refine wpList_append_own_none hgd s x t ho base e i 1 ht hi v n xs hs hown hx ?_
    exact h v w (by simpa using hown) ⟨rfl, rfl, rfl, Nat.le_refl _, fun _ _ _ => rfl⟩
  | some ad =>
    refine wpList_append_own w hgd s x t ho base e i z 1 bytes ht hi hz hsize hby hzs (by decide) v n xs hs hown ad m c news hx (by omega) (fun j u hu => ?_) h1 h63 hbytes hbase (fun v' w' h2 h3 _ => h v' w' h2 h3)
    obtain ⟨ad', e, hc⟩ := hnews j u hu
    injection e with e; subst e; exact hc
end Go.Proofs.Ytbnplhdelpbfdaa
