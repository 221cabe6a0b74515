/- A line in memory: what lies where, and what stays. -/
import Derived.Test.YtgjplbanfnomkaaLnA
import Derived.Test.YtgjplbanfnomkaaLti
set_option linter.unusedVariables false
set_option linter.unusedSimpArgs false
namespace Go.Proofs.Ytgjplbanfnomkaa
open Go.RowKit
/-- Not a block of bytes. -/
def Nu (w : World) (i : Nat) : Prop := ¬ ∃ cs m, w.heap[i]? = some (.cells cs 5 m)
structure Ln.Ok (x : Ln) : Prop where
  b0 : 0 ≤ x.b
  b1 : x.b ≤ 1099511627776
  t0 : 0 ≤ x.t
  t1 : x.t ≤ 1099511627776
  it : ∀ p ∈ x.l, okIt p = true
  n : x.l.length ≤ 4096
  m : x.b + x.l.length ≤ 1099511627776
theorem okIt_parts {p : Itm} (h : okIt p = true) : 0 ≤ p.t ∧ p.t ≤ 1099511627776 ∧ p.b.length ≤ 8192 := by
  unfold okIt MostL at h
  simp only [Bool.and_eq_true, decide_eq_true_eq] at h
  exact ⟨h.1, h.2.1, h.2.2⟩
theorem Nu.turn {T : Nat → Prop} {w w' : World} (t : Turn T w w') (hT : ∀ i, T i → Nu w i) : ∀ i, i < w.heap.size → Nu w' i → Nu w i := fun i hi h => by
  by_cases hTi : T i
  · exact hT i hTi
  · rintro ⟨cs, m, e⟩
    exact h ⟨cs, m, t.heap e hTi⟩
/-- A line's blocks: its own, g, and its items', which v names. -/
structure Lat (w : World) (g : Nat) (v : Value) (x : Ln) : Prop where
  h : w.heap[g]? = some (.cells #[.int .i64 x.b, .int .i64 x.t, v] 66 (0, 0))
  o : ∃ cs, ItV w (Nu w) x.l cs ∧ w.ownsRow 0 36 2 v x.l.length cs
  ok : x.Ok
theorem row3 {w : World} {x : Nat} {a b c : Value} {t : TypeId} (H : w.heap[x]? = some (.cells #[a, b, c] t (0, 0))) :
    (w.cell? ⟨x, 0, none⟩ = some a ∧ w.cell? ⟨x, 1, none⟩ = some b ∧ w.cell? ⟨x, 2, none⟩ = some c) ∧ (w.frozen? ⟨x, 0, none⟩ = false ∧ w.frozen? ⟨x, 1, none⟩ = false ∧ w.frozen? ⟨x, 2, none⟩ = false) := by
  refine ⟨⟨?_, ?_, ?_⟩, ⟨?_, ?_, ?_⟩⟩
  all_goals first | exact frozen_of_row w x _ _ _ H | (rw [cell_of_row _ _ _ _ _ _ H]; rfl)
theorem BtN.less {w : World} {N N' : Nat → Prop} {S : Option Addr} {c : Nat} {b : List B8} (h : BtN w N S c b) (hN : ∀ i, N' i → N i) : BtN w N' S c b := h.turn (Turn.refl (fun _ => False) w) (fun _ h => h.elim) (fun i _ h => hN i h)
theorem ItN.less {w : World} {N N' : Nat → Prop} {A : Option Addr} {l : List Itm} (h : ItN w N A l) (hN : ∀ i, N' i → N i) : ItN w N' A l := h.turn (Turn.refl (fun _ => False) w) (fun _ h => h.elim) (fun i _ h => hN i h)
theorem ItV.less {w : World} {N N' : Nat → Prop} {cs : List Value} {l : List Itm} (h : ItV w N l cs) (hN : ∀ i, N' i → N i) : ItV w N' l cs := h.turn (Turn.refl (fun _ => False) w) (fun _ h => h.elim) (fun i _ h => hN i h)
theorem row_block {w : World} {B s n k : Nat} {e : TypeId} {v : Value} {cs : List Value} (h : w.ownsRow B e s v n cs) (hk : v.ownBlock = some k) : ∃ cur, w.heap[k]? = some (.cells cur e (0, 0)) ∧ B ≤ k := by
  rcases h.2 with ⟨e, -⟩ | ⟨g, cap, cur, rfl, hB, hg, -⟩
  · subst e; cases hk
  · injection hk with hk; subst hk; exact ⟨cur, hg, hB⟩
theorem row_slice {w : World} {B s n : Nat} {e : TypeId} {v : Value} {cs : List Value} (h : w.ownsRow B e s v n cs) : ∃ A c, v = .slice A n c ∧ n ≤ c ∧ c ≤ maxLen ∧ (A = none → c = 0) ∧ (A = none ∨ ∃ k, A = some ⟨k, 0, none⟩ ∧ B ≤ k ∧ v.ownBlock = some k) := by
  rcases h.2 with ⟨e, h0⟩ | ⟨g, cap, cur, e, hB, hg, hn, hc, -⟩
  · exact ⟨none, 0, by rw [e, h0], by omega, Nat.zero_le _, fun _ => rfl, .inl rfl⟩
  · exact ⟨_, cap, e, hn, hc, (fun h => by cases h), .inr ⟨g, rfl, hB, by rw [e]; rfl⟩⟩
section
variable {w w' : World} {g : Nat} {v : Value} {x : Ln} {T : Nat → Prop}
theorem Lat.cells (h : Lat w g v x) : w.cell? ⟨g, 0, none⟩ = some (.int .i64 x.b) ∧ w.cell? ⟨g, 1, none⟩ = some (.int .i64 x.t) ∧ w.cell? ⟨g, 2, none⟩ = some v := (row3 h.h).1
theorem Lat.frozen (h : Lat w g v x) : w.frozen? ⟨g, 0, none⟩ = false ∧ w.frozen? ⟨g, 1, none⟩ = false ∧ w.frozen? ⟨g, 2, none⟩ = false := (row3 h.h).2
theorem Lat.nuG (h : Lat w g v x) : Nu w g := by
  rintro ⟨cs, m, e⟩
  rw [h.h] at e
  injection e with e
  injection e with _ e
  exact absurd e (by decide)
theorem Lat.nuV (h : Lat w g v x) {k : Nat} (hk : v.ownBlock = some k) : Nu w k := by
  obtain ⟨cs, -, ho⟩ := h.o
  obtain ⟨cur, hc, -⟩ := row_block ho hk
  rintro ⟨cs, m, e⟩
  rw [hc] at e
  injection e with e
  injection e with _ e
  exact absurd e (by decide)
theorem Lat.ne (h : Lat w g v x) : v.ownBlock ≠ some g := fun hk => by
  obtain ⟨cs, -, ho⟩ := h.o
  obtain ⟨cur, hc, -⟩ := row_block ho hk
  rw [h.h] at hc
  injection hc with hc
  injection hc with _ hc
  exact absurd hc (by decide)
theorem Lat.lt (h : Lat w g v x) : g < w.heap.size := lt_of_block h.h
theorem Lat.ltV (h : Lat w g v x) {k : Nat} (hk : v.ownBlock = some k) : k < w.heap.size := by
  obtain ⟨cs, -, ho⟩ := h.o
  obtain ⟨cur, hc, -⟩ := row_block ho hk
  exact lt_of_block hc
/-- A line's own blocks. -/
def Ow (g : Nat) (v : Value) (i : Nat) : Prop := i = g ∨ v.ownBlock = some i
theorem Lat.nu (h : Lat w g v x) {i : Nat} (hi : Ow g v i) : Nu w i := hi.elim (fun e => by rw [e]; exact h.nuG) (fun e => h.nuV e)
theorem Lat.ltO (h : Lat w g v x) {i : Nat} (hi : Ow g v i) : i < w.heap.size := hi.elim (fun e => by rw [e]; exact h.lt) (fun e => h.ltV e)
theorem Lat.turn (h : Lat w g v x) (t : Turn T w w') (hT : ∀ i, T i → Nu w i) (hO : ∀ i, Ow g v i → ¬ T i) : Lat w' g v x := by
  obtain ⟨cs, hv, ho⟩ := h.o
  exact ⟨t.heap h.h (hO g (.inl rfl)), ⟨cs, hv.turn t hT (Nu.turn t hT), own_turn2 t ho (fun k hk => hO k (.inr hk))⟩, h.ok⟩
theorem Lat.quiet (h : Lat w g v x) (t : Turn (fun _ => False) w w') : Lat w' g v x := h.turn t (fun _ h => h.elim) (fun _ _ h => h)
theorem Lat.parts (h : Lat w g v x) : ∃ A c, v = .slice A x.l.length c ∧ x.l.length ≤ c ∧ c ≤ maxLen ∧ (A = none → c = 0) ∧ ItN w (fun _ => False) A x.l := by
  obtain ⟨cs, hv, ho⟩ := h.o
  obtain ⟨A, c, e, hc, hm, ha, -⟩ := row_slice ho
  rw [e] at ho
  exact ⟨A, c, e, hc, hm, ha, (hv.less (N' := fun _ => False) (fun _ h => h.elim)).itN ho (fun _ h => h.elim)⟩
end
/-- What a call that changes a line turns: its own blocks; its items may lie in a new one. -/
structure LnStep (w w' : World) (g : Nat) (v v' : Value) : Prop where
  t : Turn (Ow g v) w w'
  o : ∀ k, v'.ownBlock = some k → v.ownBlock = some k ∨ w.heap.size ≤ k
theorem LnStep.refl (w : World) (g : Nat) (v : Value) : LnStep w w g v v := ⟨Turn.refl _ _, fun _ h => .inl h⟩
theorem LnStep.trans {a b c : World} {g : Nat} {v v' v'' : Value} (h : LnStep a b g v v') (k : LnStep b c g v' v'') : LnStep a c g v v'' :=
  ⟨h.t.trans k.t (fun i hi e => e.elim .inl (fun e => (h.o i e).elim .inr (fun h => by omega))), fun i e => (k.o i e).elim (fun e => h.o i e) (fun e => .inr (by have := h.t.size; omega))⟩
theorem LnStep.quiet {w w' : World} {g : Nat} {v : Value} (t : Turn (fun _ => False) w w') : LnStep w w' g v v := ⟨t.mono (fun _ _ h => h.elim), fun _ h => .inl h⟩
theorem Ln.at_there {x : Ln} (h : x.Ok) {i : Int} (h1 : x.b < i) (h2 : i ≤ x.last) : ∃ k : Nat, i - x.b - 1 = (k : Int) ∧ ∃ p, x.l[k]? = some p ∧ x.at i = p.t ∧ 0 ≤ p.t := by
  unfold Ln.last at h2
  refine ⟨(i - x.b - 1).toNat, by omega, ?_⟩
  have hk : (i - x.b - 1).toNat < x.l.length := by omega
  refine ⟨x.l[(i - x.b - 1).toNat], List.getElem?_eq_getElem hk, ?_, (okIt_parts (h.it _ (List.getElem_mem hk))).1⟩
  have := Ln.at_item (x := x) (List.getElem?_eq_getElem hk)
  rw [← this]; congr 1; omega
theorem Ln.at_base (x : Ln) : x.at x.b = x.t := by unfold Ln.at; rw [if_pos rfl]
theorem Ln.at_low {x : Ln} {i : Int} (h : i < x.b) : x.at i = -1 := by unfold Ln.at; rw [if_neg (by omega), if_pos (.inl h)]
end Go.Proofs.Ytgjplbanfnomkaa
