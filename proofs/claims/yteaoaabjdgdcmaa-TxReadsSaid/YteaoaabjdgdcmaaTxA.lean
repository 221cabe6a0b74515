/- Transactions as plain records, and how they lie in memory. -/
import Derived.Test.YteaoaabjdgdcmaaTxBase
set_option linter.unusedVariables false
namespace Go.Proofs.Yteaoaabjdgdcmaa
open Go.RowKit
/-- An input, plain: its digest, its index, its amount, its secret. -/
structure Pin where
  d : List B8
  x : Int
  n : Nat
  b : List B8
/-- An output, plain. -/
structure Pout where
  d : List B8
  n : Nat
/-- A transaction, plain. -/
structure Ptx where
  ins : List Pin
  outs : List Pout
  fee : Nat
  exp : Int
instance : DecidableEq Pin := fun a b => decidable_of_iff (a.d = b.d ∧ a.x = b.x ∧ a.n = b.n ∧ a.b = b.b) (by cases a; cases b; simp)
instance : DecidableEq Pout := fun a b => decidable_of_iff (a.d = b.d ∧ a.n = b.n) (by cases a; cases b; simp)
instance : DecidableEq Ptx := fun a b => decidable_of_iff (a.ins = b.ins ∧ a.outs = b.outs ∧ a.fee = b.fee ∧ a.exp = b.exp) (by cases a; cases b; simp)
structure Pin.ok (p : Pin) : Prop where
  d : p.d.length = 32
  x0 : -9223372036854775808 ≤ p.x
  x1 : p.x < 9223372036854775808
  n : p.n < 18446744073709551616
  m : p.b.length ≤ maxLen
structure Pout.ok (p : Pout) : Prop where
  d : p.d.length = 32
  n : p.n < 18446744073709551616
def Pin.cells (p : Pin) (S : Option Addr) (c : Nat) : List Value := p.d.map bv ++ [.int .i64 p.x, .int .u64 (p.n : Int), .slice S p.b.length c]
def Pout.cells (p : Pout) : List Value := p.d.map bv ++ [.int .u64 (p.n : Int)]
theorem Pin.len (p : Pin) (S : Option Addr) (c : Nat) (h : p.d.length = 32) : (p.cells S c).length = 35 := by simp [Pin.cells, h]
theorem Pout.len (p : Pout) (h : p.d.length = 32) : p.cells.length = 33 := by simp [Pout.cells, h]
theorem Pin.one (p : Pin) (S : Option Addr) (c : Nat) : (p.cells S c).toArray.all (·.oneCell') = true := by
  rw [Array.all_eq_true_iff_forall_mem]
  intro u hu
  simp only [Pin.cells, List.mem_toArray, List.mem_append, List.mem_cons, List.not_mem_nil, or_false, List.mem_map] at hu
  rcases hu with ⟨x, -, rfl⟩ | (rfl | rfl | rfl) <;> rfl
theorem Pout.one (p : Pout) : p.cells.toArray.all (·.oneCell') = true := by
  rw [Array.all_eq_true_iff_forall_mem]
  intro u hu
  simp only [Pout.cells, List.mem_toArray, List.mem_append, List.mem_cons, List.not_mem_nil, or_false, List.mem_map] at hu
  rcases hu with ⟨x, -, rfl⟩ | rfl <;> rfl
theorem Pin.at (p : Pin) (S : Option Addr) (c : Nat) (h : p.d.length = 32) : (p.cells S c)[32]? = some (.int .i64 p.x) ∧ (p.cells S c)[33]? = some (.int .u64 (p.n : Int)) ∧ (p.cells S c)[34]? = some (.slice S p.b.length c) := by
  unfold Pin.cells
  refine ⟨?_, ?_, ?_⟩ <;> rw [List.getElem?_append_right (by simp [h])] <;> simp [h]
theorem Pout.at (p : Pout) (h : p.d.length = 32) : p.cells[32]? = some (.int .u64 (p.n : Int)) := by
  unfold Pout.cells
  rw [List.getElem?_append_right (by simp [h])]; simp [h]
/-- Bytes in a slice below block B. -/
structure BAt (w : World) (B : Nat) (S : Option Addr) (c : Nat) (b : List B8) : Prop where
  s : Sl w B S (b.map bv)
  a : S = none → c = 0
  c : b.length ≤ c
/-- Inputs, and outputs, in a slice below block B. -/
def InsAt (w : World) (B : Nat) (A : Option Addr) (l : List Pin) : Prop := ∀ i p, l[i]? = some p → p.ok ∧ ∃ b o S c, A = some ⟨b, o, none⟩ ∧ b < B ∧ BAt w B S c p.b ∧ w.rangeAt b (o + i * 35) (p.cells S c)
def OutsAt (w : World) (B : Nat) (A : Option Addr) (l : List Pout) : Prop := ∀ i p, l[i]? = some p → p.ok ∧ ∃ b o, A = some ⟨b, o, none⟩ ∧ b < B ∧ w.rangeAt b (o + i * 33) p.cells
theorem Turn.range {S : Nat → Prop} {w w' : World} {b o : Nat} {cs : List Value} (t : Turn S w w') (h : w.rangeAt b o cs) (hb : ¬ S b) : w'.rangeAt b o cs := fun j v hj => t.cell (h j v hj) hb
section
variable {w w' : World} {B B' c : Nat} {A S : Option Addr} {b : List B8} {l : List Pin} {k : List Pout}
theorem BAt.turn {T : Nat → Prop} (h : BAt w B S c b) (t : Turn T w w') (hT : ∀ i, i < B → ¬ T i) : BAt w' B S c b := ⟨t.sl h.s hT, h.a, h.c⟩
theorem BAt.more (h : BAt w B S c b) (hB : B ≤ B') : BAt w B' S c b := ⟨h.s.more hB, h.a, h.c⟩
theorem InsAt.turn {T : Nat → Prop} (h : InsAt w B A l) (t : Turn T w w') (hT : ∀ i, i < B → ¬ T i) : InsAt w' B A l := fun i p hi => by
  obtain ⟨hok, b, o, S, c, e, hb, hs, hr⟩ := h i p hi
  exact ⟨hok, b, o, S, c, e, hb, hs.turn t hT, t.range hr (hT b hb)⟩
theorem OutsAt.turn {T : Nat → Prop} (h : OutsAt w B A k) (t : Turn T w w') (hT : ∀ i, i < B → ¬ T i) : OutsAt w' B A k := fun i p hi => by
  obtain ⟨hok, b, o, e, hb, hr⟩ := h i p hi
  exact ⟨hok, b, o, e, hb, t.range hr (hT b hb)⟩
theorem InsAt.more (h : InsAt w B A l) (hB : B ≤ B') : InsAt w B' A l := fun i p hi => by
  obtain ⟨hok, b, o, S, c, e, hb, hs, hr⟩ := h i p hi
  exact ⟨hok, b, o, S, c, e, by omega, hs.more hB, hr⟩
theorem OutsAt.more (h : OutsAt w B A k) (hB : B ≤ B') : OutsAt w B' A k := fun i p hi => by
  obtain ⟨hok, b, o, e, hb, hr⟩ := h i p hi
  exact ⟨hok, b, o, e, by omega, hr⟩
theorem InsAt.take (h : InsAt w B A l) (n : Nat) : InsAt w B A (l.take n) := fun i p hi => by
  rw [List.getElem?_take] at hi
  split at hi
  · exact h i p hi
  · cases hi
end
/-- A transaction's value. -/
def txV (Ai : Option Addr) (ci : Nat) (Ao : Option Addr) (co : Nat) (t : Ptx) : Value := .agg #[.slice Ai t.ins.length ci, .slice Ao t.outs.length co, .int .u64 (t.fee : Int), .int .i64 t.exp]
structure TxAt (w : World) (B : Nat) (Ai : Option Addr) (ci : Nat) (Ao : Option Addr) (co : Nat) (t : Ptx) : Prop where
  ins : InsAt w B Ai t.ins
  ia : Ai = none → ci = 0
  ic : t.ins.length ≤ ci
  im : t.ins.length ≤ maxLen
  outs : OutsAt w B Ao t.outs
  oa : Ao = none → co = 0
  oc : t.outs.length ≤ co
  om : t.outs.length ≤ maxLen
  fee : t.fee < 18446744073709551616
  x0 : -9223372036854775808 ≤ t.exp
  x1 : t.exp < 9223372036854775808
section
variable {w w' : World} {B B' ci co : Nat} {Ai Ao : Option Addr} {t : Ptx}
theorem TxAt.turn {T : Nat → Prop} (h : TxAt w B Ai ci Ao co t) (k : Turn T w w') (hT : ∀ i, i < B → ¬ T i) : TxAt w' B Ai ci Ao co t :=
  ⟨h.ins.turn k hT, h.ia, h.ic, h.im, h.outs.turn k hT, h.oa, h.oc, h.om, h.fee, h.x0, h.x1⟩
theorem TxAt.more (h : TxAt w B Ai ci Ao co t) (hB : B ≤ B') : TxAt w B' Ai ci Ao co t :=
  ⟨h.ins.more hB, h.ia, h.ic, h.im, h.outs.more hB, h.oa, h.oc, h.om, h.fee, h.x0, h.x1⟩
end
/- The promises' words, as plain functions. -/
def outB (p : Pin) : Bool := decide (64 < p.b.length ∨ p.x < 0 ∨ 15 < p.x)
def withinB (t : Ptx) : Bool := decide (1 ≤ t.ins.length ∧ t.ins.length ≤ 16 ∧ 1 ≤ t.outs.length ∧ t.outs.length ≤ 16 ∧ 0 ≤ t.exp ∧ t.exp ≤ 1099511627776) && !(t.ins.any outB)
def samePt (p q : Pin) : Bool := decide (p.d = q.d ∧ p.x = q.x)
def twiceB (l : List Pin) : Bool := (List.range l.length).any fun i => match l[i]? with | some p => (l.take i).any fun q => samePt q p | none => false
def insN (l : List Pin) : List Nat := l.map (·.n)
def outsN (l : List Pout) : List Nat := l.map (·.n)
def zeroB (l : List Nat) : Bool := l.any fun n => decide (n = 0)
def balE (a b : List Nat) : Nat := if (allV 0 a).2 ≠ 0 then (allV 0 a).2 else if (allV 0 b).2 ≠ 0 then (allV 0 b).2 else if (allV 0 a).1 ≠ (allV 0 b).1 then 9 else 0
def chk (t : Ptx) : Nat :=
  if withinB t = false then 4 else if twiceB t.ins = true then 7 else if zeroB (insN t.ins) = true ∨ zeroB (outsN t.outs) = true then 8 else balE (insN t.ins) (outsN t.outs ++ [t.fee])
end Go.Proofs.Yteaoaabjdgdcmaa
