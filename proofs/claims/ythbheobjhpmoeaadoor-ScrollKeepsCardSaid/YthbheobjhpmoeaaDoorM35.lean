/- Merged: ScrollKeeps (under way). -/
import Derived.Test.YthbheobjhpmoeaaDoorM34
namespace Go.Proofs.YthbheobjhpmoeaaDoor
section
set_option linter.unusedVariables false
set_option linter.unusedSimpArgs false
open Go.RowKit
set_option maxRecDepth 100000
theorem rec_six {t n : Nat} {b : List B8} (ht : t < 65536) (hn : n < 256) (hb : b.length ≤ 300) : (fldS t n b).length ≤ 308 ∧ (formS t n b).length / 64 ≤ 5 := by
  have h1 : klen t ≤ 2 := klen_le (by omega)
  have h2 : klen n ≤ 1 := klen_le (by omega)
  have h3 : klen b.length ≤ 2 := klen_le (by omega)
  have hl := fldS_length t n b
  refine ⟨by omega, ?_⟩
  rw [formS_length]
  have := secPad_lt (12 + (fldS t n b).length)
  have := secPad_div (12 + (fldS t n b).length)
  omega
/-- What the first loop of ScrollKeeps keeps: the scroll over put, and the slice pv of the texts lst. -/
structure Kp (SB : World → Nat → Nat → Scr → (Nat → Prop) → Prop) (w wr : World) (g s t i : Nat) (d : Dr) (put lst : List (List B8)) (sure : Nat) (D E : Nat → Prop) (pv : Value) (vs : List Value) : Prop where
  gd : Gd SB wr g s 40 0 40 t d put sure D E
  fr : Frm w wr D E
  row : Srow wr w.heap.size pv lst.length vs
  txt : TxtV wr (fun k => w.heap.size ≤ k) lst vs
  apart : ∀ k, pv.ownBlock = some k → ¬ D k ∧ ¬ E k
  few : d.W.length ≤ 5 * i
  le : put.length ≤ i
section
variable {SB : World → Nat → Nat → Scr → (Nat → Prop) → Prop} {w wr w' : World} {g s t i : Nat} {d d' : Dr} {put put' lst : List (List B8)} {sure sure' : Nat} {D D' E : Nat → Prop} {pv : Value} {vs : List Value}
theorem Kp.quiet (h : Kp SB w wr g s t i d put lst sure D E pv vs) (S13 : SC SB) (ht : Turn (fun _ => False) wr w') : Kp SB w w' g s t i d put lst sure D E pv vs :=
  ⟨h.gd.quiet S13 ht, h.fr.quiet ht, own_turn ht h.row (fun _ _ h => h), h.txt.turn ht (fun _ h => h.elim) (fun _ _ h => h), h.apart, h.few, h.le⟩
/-- A call of the scroll: the slice stands. -/
theorem Kp.step (h : Kp SB w wr g s t i d put lst sure D E pv vs) {j : Nat} (gd : Gd SB w' g s 40 0 40 t d' put' sure' D' E) (hD : ∀ k, D' k → Dn D wr w' k) (ht : Turn (fun k => D k ∨ E k) wr w') (hf : d'.W.length ≤ 5 * j) (hl : put'.length ≤ j) : Kp SB w w' g s t j d' put' lst sure' D' E pv vs :=
  ⟨gd, h.fr.step hD ht, own_turn ht h.row (fun k hk e => e.elim (h.apart k hk).1 (h.apart k hk).2), h.txt.turn ht (fun k e => e.elim (h.fr.d k) (h.fr.e k)) (fun _ _ h => h), fun k hk => ⟨fun e => (hD k e).elim (h.apart k hk).1 (fun e => by have := (World.ownsRow.lt h.row k hk).2; have := e.1; omega), (h.apart k hk).2⟩, hf, hl⟩
theorem Kp.next (h : Kp SB w wr g s t i d put lst sure D E pv vs) : Kp SB w wr g s t (i + 1) d put lst sure D E pv vs :=
  ⟨h.gd, h.fr, h.row, h.txt, h.apart, by have := h.few; omega, by have := h.le; omega⟩
/-- A text is appended to the slice (behind the making of the one-element slice, one block). -/
theorem Kp.append (h : Kp SB w wr g s t i d put lst sure D E pv vs) (S13 : SC SB) (hw2 : 2 ≤ w.heap.size) {x : List B8} {A : Option Addr} {c : Nat} (h1 : x.length ≤ c) (h2 : A = none → c = 0) (h3 : SlN wr (fun k => w.heap.size ≤ k) A (x.map bv)) {o : Obj} {pv' : Value}
    (own : Srow w' w.heap.size pv' (lst.length + 1) (vs ++ [.slice A x.length c])) (gr : (wr.alloc o).grownBy w' pv.ownBlock) (at' : pv'.ownBlock = pv.ownBlock ∨ pv'.ownBlock = some (wr.alloc o).heap.size) :
    Kp SB w w' g s t i d put (lst ++ [x]) sure D E pv' (vs ++ [.slice A x.length c]) := by
  have tt : Turn (fun k => pv.ownBlock = some k) wr w' := ((Turn.refl _ wr).alloc o).grown gr (fun i _ e => e.symm)
  have hlo : ∀ k, pv.ownBlock = some k → w.heap.size ≤ k := fun k hk => (World.ownsRow.lt h.row k hk).1
  refine ⟨h.gd.keep S13 tt (fun k hk e => (h.apart k e).1 hk) (fun k hk e => (h.apart k e).2 hk) (fun k e => by have := hlo k e; omega), ⟨h.fr.t.trans tt (fun j hj e => by have := hlo j e; omega), h.fr.d, h.fr.e⟩, by rw [List.length_append]; exact own, (h.txt.add h1 h2 h3).turn tt (fun k e => hlo k e) (fun _ _ h => h), fun k hk => ?_, h.few, h.le⟩
  rcases at' with e | e
  · rw [e] at hk; exact h.apart k hk
  · rw [e] at hk
    injection hk with hk
    have hs : (wr.alloc o).heap.size = wr.heap.size + 1 := by simp
    exact ⟨fun hd => by have := h.gd.ats.ld.lt k hd; omega, fun he => by have := h.gd.ats.lt k he; omega⟩
end
end
end Go.Proofs.YthbheobjhpmoeaaDoor
