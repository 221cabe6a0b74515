/- Merged: The document's drum in memory: its sectors, what waits; keep. The document's drum: Read. The document's drum: Sync. The document's drum: Start. The document's drum: Start. -/
import Derived.Test.YthbheobjhpmoeaaDoorM13
import Derived.Test.YthbheobjhpmoeaaDoorM08
import Derived.Test.YthbheobjhpmoeaaDoorM02
import Derived.Deep.MidRow
import Derived.Deep.RegionLaw
import Derived.Laws.Rows
import Derived.LoopTactic
import Derived.Test.YthbheobjhpmoeaaDoorM07
import Derived.Great.BuildSlice
import Derived.Deep.Onto
namespace Go.Proofs.YthbheobjhpmoeaaDoor
section
set_option linter.unusedVariables false
open Go.RowKit

/-- A sector's bytes, in a block of D and none of N. -/
def SecV (w : World) (N D : Nat → Prop) (v : Value) (s : Sec) : Prop := s.length = 64 ∧ ∃ a c, v = .slice (some a) 64 c ∧ 64 ≤ c ∧ ¬ N a.block ∧ D a.block ∧ ∀ j u, (s.map bv)[j]? = some u → w.cell? (a.add j) = some u
set_option maxRecDepth 100000 in
theorem SecV.turn {w w' : World} {N D N' D' S : Nat → Prop} {v : Value} {s : Sec} (h : SecV w N D v s) (t : Turn S w w') (hS : ∀ k, S k → ¬ N k → D k → False) (hN : ∀ k, k < w.heap.size → N' k → N k) (hD : ∀ k, D k → D' k) : SecV w' N' D' v s := by
  obtain ⟨h1, a, c, e, hc, hn, hd, hb⟩ := h
  have hlt : a.block < w.heap.size := by
    have := World.block_lt_of_cell? w _ (hb 0 (bv s[0]) (bvs_at s 0 (by omega)))
    rwa [add_block] at this
  exact ⟨h1, a, c, e, hc, fun h => hn (hN _ hlt h), hD _ hd, fun j u hu => t.cell (hb j u hu) (by rw [add_block]; exact fun h => hS _ h hn hd)⟩
/-- The cells of what waits: a place, a slice. -/
def waitV (us : List (Nat × Value)) : List Value := us.flatMap fun u => [.int .i64 (u.1 : Int), u.2]
set_option maxRecDepth 100000 in
theorem waitV_append (us vs : List (Nat × Value)) : waitV (us ++ vs) = waitV us ++ waitV vs := by simp [waitV]
set_option maxRecDepth 100000 in
theorem waitV_len (us : List (Nat × Value)) : (waitV us).length = us.length * 2 := by
  induction us with
  | nil => rfl
  | cons u l ih => simp only [waitV, List.flatMap_cons, List.length_append, List.length_cons, List.length_nil] at *; omega
set_option maxRecDepth 100000 in
theorem waitV_at : ∀ (us : List (Nat × Value)) (i : Nat) (u : Nat × Value), us[i]? = some u → (waitV us)[i * 2]? = some (.int .i64 (u.1 : Int)) ∧ (waitV us)[i * 2 + 1]? = some u.2
  | [], i, u, h => by simp at h
  | v :: l, 0, u, h => by simp at h; subst h; exact ⟨rfl, rfl⟩
  | v :: l, i + 1, u, h => by
    rw [List.getElem?_cons_succ] at h
    have := waitV_at l i u h
    rw [show (i + 1) * 2 = i * 2 + 2 by omega]
    exact this
set_option maxRecDepth 100000 in
theorem own_turn {S : Nat → Prop} {w w' : World} {base s n : Nat} {e : TypeId} {v : Value} {xs : List Value} (h : Turn S w w') (ho : w.ownsRow base e s v n xs) (hn : ∀ g, v.ownBlock = some g → ¬ S g) : w'.ownsRow base e s v n xs := by
  obtain ⟨h1, h2⟩ := ho
  refine ⟨h1, ?_⟩
  rcases h2 with h2 | ⟨g, cap, cur, rfl, hg, hh, r⟩
  · exact .inl h2
  · exact .inr ⟨g, cap, cur, rfl, hg, h.heap hh (hn g rfl), r⟩
set_option maxRecDepth 100000 in
/-- A row of one's own is a slice: its address and cells. -/
theorem own_cells {w : World} {base s n : Nat} {e : TypeId} {v : Value} {xs : List Value} (h : w.ownsRow base e s v n xs) : ∃ A c, v = .slice A n c ∧ ∀ j u, xs[j]? = some u → ∃ g, A = some ⟨g, 0, none⟩ ∧ v.ownBlock = some g ∧ w.cell? ⟨g, j, none⟩ = some u := by
  obtain ⟨h1, h2⟩ := h
  rcases h2 with ⟨rfl, rfl⟩ | ⟨g, cap, cur, rfl, hg, hh, hn, hcap, hsz, ht⟩
  · refine ⟨none, 0, rfl, fun j u hu => ?_⟩
    simp at h1; subst h1; simp at hu
  · refine ⟨_, cap, rfl, fun j u hu => ⟨g, rfl, rfl, ?_⟩⟩
    rw [cell_of_row _ _ _ _ _ _ hh]
    rw [← ht, List.getElem?_take] at hu
    split at hu
    · simpa using hu
    · cases hu
end
section
set_option linter.unusedVariables false
open Go.RowKit
set_option maxRecDepth 100000 in
theorem nowS_snoc (k : Nat) (b : Sec) (W : List (Nat × Sec)) (i : Nat) (h : i < W.length) : nowS k b (W.take (i + 1)) = if W[i].1 = k then W[i].2 else nowS k b (W.take i) := by
  rw [List.take_succ_eq_append_getElem h, nowS, List.foldl_append]; rfl
end
section
set_option linter.unusedVariables false
open Go.RowKit
set_option maxRecDepth 100000 in
theorem own_set {w : World} {base n : Nat} {e : TypeId} {g c : Nat} {xs : List Value} (h : w.ownsRow base e 1 (.slice (some ⟨g, 0, none⟩) n c) n xs) (k : Nat) (hk : k < n) (u : Value) :
    (w.setCell ⟨g, k, none⟩ u).ownsRow base e 1 (.slice (some ⟨g, 0, none⟩) n c) n (xs.set k u) := by
  obtain ⟨h1, h2⟩ := h
  rcases h2 with ⟨e, -⟩ | ⟨g', cap, cur, e, hg, hh, hn, hcap, hsz, ht⟩
  · cases e
  · injection e with e1 e2 e3
    injection e1 with e1
    injection e1 with e1
    subst e1; subst e3
    refine ⟨by simpa using h1, .inr ⟨g, c, _, rfl, hg, heap_setCell_same _ g k _ _ _ hh, hn, hcap, by simpa using hsz, ?_⟩⟩
    rw [Array.toList_setIfInBounds, List.take_set, ht]
set_option maxRecDepth 100000 in
theorem own_frozen {w : World} {base s n : Nat} {e : TypeId} {v : Value} {xs : List Value} (h : w.ownsRow base e s v n xs) {g : Nat} (hg : v.ownBlock = some g) (k : Nat) : w.frozen? ⟨g, k, none⟩ = false := by
  rcases h.2 with ⟨rfl, -⟩ | ⟨g', cap, cur, rfl, -, hh, -⟩
  · cases hg
  · injection hg with hg; subst hg; exact frozen_of_row _ _ _ _ _ hh
set_option maxRecDepth 100000 in
theorem landL_snoc (w : Nat × Sec) (W : List (Nat × Sec)) : ∀ (L : List Sec) (M : List B8), landL L (W ++ [w]) M = (landL L W M).set w.1 (tornS ((landL L W M).getD w.1 []) w.2 (M.getD W.length 255)) := by
  induction W with
  | nil => intro L M; cases M <;> rfl
  | cons x W ih =>
    intro L M
    rw [List.cons_append, landL, ih, ← landL]
    congr 2
    cases M with
    | nil => rfl
    | cons m M => rfl
set_option maxRecDepth 100000 in
/-- Its sectors after the first j of what waits have landed whole. -/
theorem land_next {L : List Sec} {W : List (Nat × Sec)} {j : Nat} (hj : j < W.length) (h64 : W[j].2.length = 64) : landL L (W.take (j + 1)) [] = (landL L (W.take j) []).set W[j].1 W[j].2 := by
  rw [List.take_succ_eq_append_getElem hj, landL_snoc]
  congr 1
  exact tornS_all _ _ h64
end
section
set_option linter.unusedVariables false
open Go.RowKit
set_option maxRecDepth 100000 in
theorem cell_stp {w w' : World} {ad : Addr} {v : Value} (h : w.cell? ad = some v) (hs : Stp w w') : w'.cell? ad = some v := (Below.cell hs (World.block_lt_of_cell? w _ h)).trans h
set_option maxRecDepth 100000 in
theorem cls_load_cell {P : Program} {C : World → Prop} {o : Oper} {a : Act} {K : Act → Prop} (ty : TypeId) (x : Operand) (ho : o.op = .load ty x) (ad : Addr) (hx : a.eval x = .pointer (some ad)) (v : Value) (hr : ∀ w, w.cell? ad = some v → (Instr.loadAt ty (.pointer (some ad))).run P w = .ok v w)
    (hS : ∀ w, C w → w.cell? ad = some v) (hK : K (a.put o.dst v)) : o.quiet P a C K :=
  ⟨_, fun w hw => by
    unfold Oper.quietAt execOp
    simp only [ho, hx, Sem.run_bind, hr w (hS w hw), Result.andThen_ok, Sem.run_pure, Oper.quietUpon, and_self], hK⟩
set_option maxRecDepth 100000 in
theorem does_append {o : Oper} {a : Act} {w w' : World} {R : Value → World → Prop} (s x : Operand) (t : TypeId) (v u v' : Value) (ho : o.op = .call { callee := .builtin .append, args := #[s, x], argTypes := #[t, t] }) (hs : a.eval s = v) (hx : a.eval x = u)
    (hr : (Builtin.append_ #[t, t] o.type #[v, u]).run Tryd.prog w = .ok v' w') (h : R v' w') : doesR Tryd.prog o a w R := by
  unfold doesR execOp
  simp only [ho, resolve, invoke, builtin, Sem.run_bind, Sem.run_pure, Result.andThen_ok, List.map_toArray, List.map_cons, List.map_nil, hs, hx, hr]
  exact h
set_option maxRecDepth 100000 in
theorem build0 (w : World) : (Instr.buildSlice 22 0 #[]).run Tryd.prog w = .ok (.slice (some ⟨w.heap.size, 0, none⟩) 0 0) (w.alloc (.cells #[] 5)) := by
  first | kernel_rfl | simp [go_sem]
set_option maxRecDepth 100000 in
theorem does_build0 {o : Oper} {a : Act} {w : World} {R : Value → World → Prop} (ho : o.op = .buildSlice 22 0 #[]) (h : R (.slice (some ⟨w.heap.size, 0, none⟩) 0 0) (w.alloc (.cells #[] 5))) : doesR Tryd.prog o a w R := by
  unfold doesR execOp
  simp only [ho, List.map_toArray, List.map_nil, Sem.run_bind, build0 w, Result.andThen_ok]
  exact h
/-- An empty slice, made from B on. -/
def Box0 (B : Nat) (v : Value) (w : World) : Prop := ∃ g, B ≤ g ∧ v = .slice (some ⟨g, 0, none⟩) 0 0 ∧ w.heap[g]? = some (.cells #[] 5 (0, 0))
set_option maxRecDepth 100000 in
theorem Box0.stable (B : Nat) (v : Value) (w w' : World) (h : Box0 B v w) (hs : Stp w w') : Box0 B v w' := by
  obtain ⟨g, hB, e, hg⟩ := h
  exact ⟨g, hB, e, (hs.block g (lt_of_block hg)).trans hg⟩
/-- A sector's copy, made from B on. -/
def Copy (B : Nat) (s : Sec) (v : Value) (w : World) : Prop := ∃ g c, B ≤ g ∧ v = .slice (some ⟨g, 0, none⟩) 64 c ∧ 64 ≤ c ∧ w.ownsRow B 5 1 v 64 (s.map bv)
set_option maxRecDepth 100000 in
theorem Copy.stable (B : Nat) (s : Sec) (v : Value) (w w' : World) (h : Copy B s v w) (hs : Stp w w') : Copy B s v w' := by
  obtain ⟨g, c, hB, e, hc, ho⟩ := h
  refine ⟨g, c, hB, e, hc, ?_⟩
  obtain ⟨h1, h2⟩ := ho
  refine ⟨h1, ?_⟩
  rcases h2 with h2 | ⟨g', cap, cur, e', hg, hh, r⟩
  · exact .inl h2
  · exact .inr ⟨g', cap, cur, e', hg, (hs.block g' (lt_of_block hh)).trans hh, r⟩
set_option maxRecDepth 100000 in
theorem append0 (ty : TypeId) (B : Nat) (w : World) (v : Value) (h : Box0 B v w) (hB : B ≤ w.heap.size) (ad : Addr) (c : Nat) (s : Sec) (hs : s.length = 64) (hn : ∀ j u, (s.map bv)[j]? = some u → w.cell? (ad.add j) = some u) :
    ∃ v' w', (Builtin.append_ #[22, 22] ty #[v, .slice (some ad) 64 c]).run Tryd.prog w = .ok v' w' ∧ Copy B s v' w' ∧ Stp w w' := by
  obtain ⟨g, hB0, rfl, hg⟩ := h
  obtain ⟨i, hi, hz, hs1, hby⟩ := info_parts info_u8
  have hl : (s.map bv).length = 64 := by simp [hs]
  have hr := run_append_grow (P := Tryd.prog) w 22 ty 5 i (.int .u8 0) Tryd.underlying22 hi hz ⟨g, 0, none⟩ 0 0 [] (by simp) (by intro j u hu; simp at hu) ad 64 c (s.map bv) (by rw [hs1, hl]) hn (by omega) (by omega) (growslice_fits (by omega) (by rw [hby]; omega))
  have hge := grownCap_ge w (0 + 64) 0 5
  have hcm := grownCap_le_maxLen w (0 + 64) 0 5 (by unfold maxLen; omega)
  refine ⟨_, _, hr, ⟨w.heap.size, _, hB, rfl, by omega, by simpa using hl, .inr ⟨w.heap.size, _, _, rfl, hB, heap_alloc_new w.drew _, by omega, hcm, ?_, ?_⟩⟩, ((Below.refl w.heap.size w).drew).alloc (Nat.le_refl _) _⟩
  · have hz32 : (Value.int IntKind.u8 0).cells.size = 1 := rfl
    simp only [Array.size_append, List.size_toArray, size_zeroCells, hz32]
    rw [← List.length_append, List.nil_append, hl]; omega
  · simp only [Array.toList_append, List.nil_append]
    rw [show 64 * 1 = (s.map bv).length by omega]
    exact List.take_left
end
section
set_option linter.unusedVariables false
open Go.RowKit
set_option maxRecDepth 100000 in
theorem lsb255 (k : Nat) (h : k < 8) : (255 : B8).getLsbD k = true := by
  have hj : k = 0 ∨ k = 1 ∨ k = 2 ∨ k = 3 ∨ k = 4 ∨ k = 5 ∨ k = 6 ∨ k = 7 := by omega
  rcases hj with rfl | rfl | rfl | rfl | rfl | rfl | rfl | rfl <;> rfl
set_option maxRecDepth 100000 in
theorem bit_int (x : B8) (n : Nat) : (((x.toNat : Int) / 2 ^ n).tmod 2 == 1) = x.getLsbD n := by
  have e : ((x.toNat : Int) / 2 ^ n) = ((x.toNat / 2 ^ n : Nat) : Int) := by push_cast; rfl
  rw [e, Int.tmod_eq_emod_of_nonneg (Int.natCast_nonneg _), BitVec.getLsbD, Nat.testBit_eq_decide_div_mod_eq]
  generalize x.toNat / 2 ^ n = q
  by_cases h : q % 2 = 1
  · rw [decide_eq_true h, beq_iff_eq]; omega
  · rw [decide_eq_false h, beq_eq_false_iff_ne]; omega
set_option maxRecDepth 100000 in
theorem mix_yes (T s : Sec) (m : Nat) (hT : T.length = 64) (hs : s.length = 64) (hm : m < 64) (x : B8) (hx : T[m]? = some x) : ((T.take m ++ s.drop m).map bv).set m (bv x) = (T.take (m + 1) ++ s.drop (m + 1)).map bv := by
  rw [List.take_add_one, hx, List.drop_eq_getElem_cons (by omega : m < s.length)]
  simp only [List.map_append, List.map_cons, Option.toList, List.append_assoc, List.cons_append, List.nil_append]
  rw [List.set_append_right _ _ (by simp; omega)]
  simp [hT, Nat.min_eq_left (by omega : m ≤ 64)]
set_option maxRecDepth 100000 in
theorem mix_no (T s : Sec) (m : Nat) (hs : s.length = 64) (hm : m < 64) (hx : T[m]? = s[m]?) : T.take (m + 1) ++ s.drop (m + 1) = T.take m ++ s.drop m := by
  rw [List.take_add_one, hx, List.getElem?_eq_getElem (by omega), List.drop_eq_getElem_cons (by omega : m < s.length)]
  simp
set_option maxRecDepth 100000 in
theorem land_step {L : List Sec} {W : List (Nat × Sec)} {M : List B8} {j : Nat} (hj : j < W.length) : landL L (W.take (j + 1)) M = (landL L (W.take j) M).set W[j].1 (tornS ((landL L (W.take j) M).getD W[j].1 []) W[j].2 (M.getD j 255)) := by
  rw [List.take_succ_eq_append_getElem hj, landL_snoc, List.length_take, Nat.min_eq_left (by omega)]
/-- The blocks of D, and those made since w. -/
def Dn (D : Nat → Prop) (w w' : World) : Nat → Prop := fun k => D k ∨ (w.heap.size ≤ k ∧ k < w'.heap.size)
end
end Go.Proofs.YthbheobjhpmoeaaDoor
