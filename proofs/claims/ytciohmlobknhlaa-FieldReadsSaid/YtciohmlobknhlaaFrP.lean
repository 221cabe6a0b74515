/- What the reader 'held' stands on: what is wanted, as it lies; what is left behind so many fields. -/
import Derived.Test.YtciohmlobknhlaaFrE
import Derived.Test.YtciohmlobknhlaaFrQ
import Derived.Test.YtciohmlobknhlaaIdEq
import Derived.Test.YtciohmlobknhlaaRowLoad
set_option linter.unusedVariables false
namespace Go.Proofs.Ytciohmlobknhlaa
open Go.RowKit
attribute [local go_sem ↓] loadAt_id
attribute [local go_sem] rowOf_drew rowOf_drewN run_idLoad
theorem Fd.ok.turn {f : Fd} {w w' : World} {B : Nat} {S : Nat → Prop} (h : f.ok w B) (t : Turn S w w') (hS : ∀ i, i < B → ¬ S i) : f.ok w' B := ⟨h.k0, h.k1, h.n, t.sl h.s hS, h.a, h.c, h.m, h.d⟩
theorem Turn.range {S : Nat → Prop} {w w' : World} {b o : Nat} {cs : List Value} (t : Turn S w w') (h : w.rangeAt b o cs) (hb : ¬ S b) : w'.rangeAt b o cs := fun j v hj => t.cell (h j v hj) hb
theorem Fds.turn {w w' : World} {B : Nat} {A : Option Addr} {l : List Fd} {S : Nat → Prop} (h : Fds w B A l) (t : Turn S w w') (hS : ∀ i, i < B → ¬ S i) : Fds w' B A l := fun i f hf => by
  obtain ⟨hok, b, o, e, hb, hr⟩ := h i f hf
  exact ⟨hok.turn t hS, b, o, e, hb, t.range hr (hS b hb)⟩
theorem wpList_build_eq {P : Program} {w : World} {ops : Array Oper} {rest : List Oper} {o : Oper} {a : Act} {Q : Exit → Act → World → Prop} (hg : o.guard = none) (t : TypeId) (parts : Array (Nat × Operand)) (ho : o.op = .build t parts)
    (cs : Array Value) (hf' : P.built t (parts.toList.map fun p => (p.1, a.eval p.2)) = some cs) (h : wpList P ops Q rest (a.put o.dst (.agg cs)) w) : wpList P ops Q (o :: rest) a w :=
  have hf : P.built t (parts.map fun (i, x) => (i, a.eval x)).toList = some cs := by rw [Array.toList_map]; exact hf'
  wpList_build hg t parts ho (by rw [hf]; rfl) (by rw [hf]; exact h)
theorem built_d32 (x0 x1 x2 x3 x4 x5 x6 x7 x8 x9 x10 x11 x12 x13 x14 x15 x16 x17 x18 x19 x20 x21 x22 x23 x24 x25 x26 x27 x28 x29 x30 x31 : Value) : Try.prog.built 30 [(0, .int .i64 2), (3, .agg #[x0, x1, x2, x3, x4, x5, x6, x7, x8, x9, x10, x11, x12, x13, x14, x15, x16, x17, x18, x19, x20, x21, x22, x23, x24, x25, x26, x27, x28, x29, x30, x31])] = some #[.int .i64 2, .int .u64 0, .slice none 0 0, x0, x1, x2, x3, x4, x5, x6, x7, x8, x9, x10, x11, x12, x13, x14, x15, x16, x17, x18, x19, x20, x21, x22, x23, x24, x25, x26, x27, x28, x29, x30, x31] := by kernel_rfl
theorem built_d (l : List Value) (h : l.length = 32) : Try.prog.built 30 [(0, .int .i64 2), (3, .agg l.toArray)] = some ([Value.int .i64 2, .int .u64 0, .slice none 0 0] ++ l).toArray := by
  match l, h with
  | [x0, x1, x2, x3, x4, x5, x6, x7, x8, x9, x10, x11, x12, x13, x14, x15, x16, x17, x18, x19, x20, x21, x22, x23, x24, x25, x26, x27, x28, x29, x30, x31], _ => exact built_d32 x0 x1 x2 x3 x4 x5 x6 x7 x8 x9 x10 x11 x12 x13 x14 x15 x16 x17 x18 x19 x20 x21 x22 x23 x24 x25 x26 x27 x28 x29 x30 x31
theorem eNum_zero {m : Nat} {l : List B8} (h : eNum m l = 0) : numE l = 0 := by
  unfold eNum at h
  by_cases h1 : numE l ≠ 0
  · rw [if_pos h1] at h; exact h
  · simpa using h1
theorem eText_fit {m : Int} {l : List B8} (h : eText m l = 0) : numV l ≤ (numR l).length := by
  unfold eText at h
  by_cases h1 : numE l ≠ 0
  · rw [if_pos h1] at h; exact absurd h h1
  · rw [if_neg h1] at h
    by_cases h2 : m < 0 ∨ m < (numV l : Int)
    · rw [if_pos h2] at h; cases h
    · rw [if_neg h2] at h
      by_cases h3 : (numR l).length < numV l
      · rw [if_pos h3] at h; cases h
      · omega
def heldC (A : Option Addr) (n c : Nat) (Aw : Option Addr) (nw cw : Nat) (k : Nat) (s : Bool) : Array Value := #[.slice A n c, .slice Aw nw cw, .int .i64 (k : Int), .bool s]
/-- What is left behind so many fields. -/
def restJ (fs : List Fd) (l : List B8) : Nat → List B8
  | 0 => l
  | j + 1 => match fs[j]? with | some f => sL f.kd (restJ fs l j) | none => restJ fs l j
theorem restJ_next {fs : List Fd} {l : List B8} {j : Nat} {f : Fd} (h : fs[j]? = some f) : restJ fs l (j + 1) = sL f.kd (restJ fs l j) := by
  show (match fs[j]? with | some f => sL f.kd (restJ fs l j) | none => restJ fs l j) = _
  rw [h]
/-- What is wanted, as it lies. -/
def WantAt (w : World) (B : Nat) (Aw : Option Addr) (gs : List Gt) : Prop := ∀ i g, gs[i]? = some g → Sl w B g.f.A (g.f.b.map bv) ∧ g.f.b.length ≤ 1000 ∧ g.f.d.length = 32 ∧ ∃ b o, Aw = some ⟨b, o, none⟩ ∧ b < B ∧ w.rangeAt b (o + i * 37) g.cells
theorem WantAt.turn {w w' : World} {B : Nat} {A : Option Addr} {gs : List Gt} {S : Nat → Prop} (h : WantAt w B A gs) (t : Turn S w w') (hS : ∀ i, i < B → ¬ S i) : WantAt w' B A gs := fun i g hg => by
  obtain ⟨h1, h2, h3, b, o, e, hb, hr⟩ := h i g hg
  exact ⟨t.sl h1 hS, h2, h3, b, o, e, hb, t.range hr (hS b hb)⟩
theorem range_cell {w : World} {b o : Nat} {cs : List Value} (h : w.rangeAt b o cs) (j : Nat) (v : Value) (hj : cs[j]? = some v) (p : Nat) (hp : p = o + j) : w.cell? ⟨b, p, none⟩ = some v := by
  subst hp; exact h j v hj
theorem range_row37 {w : World} {b o : Nat} {g : Gt} (h : w.rangeAt b o g.cells) (hd : g.f.d.length = 32) : rowOf w b (o + 3) 32 = some (g.f.d.map bv).toArray := by
  refine rowOf_eq (by simp [hd]) (fun j v hj => ?_)
  have hj32 : j < 32 := by have := (List.getElem?_eq_some_iff.1 hj).1; simpa [hd] using this
  rw [Nat.add_assoc]
  refine h (3 + j) v ?_
  unfold Gt.cells Fd.cells
  rw [List.append_assoc, List.getElem?_append_right (by simp), List.getElem?_append_left (by simp [hd]; omega)]
  simpa using hj
end Go.Proofs.Ytciohmlobknhlaa
