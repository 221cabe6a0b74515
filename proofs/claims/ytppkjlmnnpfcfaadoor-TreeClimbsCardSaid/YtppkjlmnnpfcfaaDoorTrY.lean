/- A row of digests that is appended to where other things are made beside it: what stays, whatever the order. -/
import Derived.Test.YtppkjlmnnpfcfaaDoorTrW
set_option linter.unusedVariables false
namespace Go.Proofs.YtppkjlmnnpfcfaaDoor
open Go.RowKit
/-- Below B nothing turns; a row of digests from B on stays, but that one that holds the first pl of F may come to hold F. -/
structure Grw (B pl : Nat) (F : List Value) (w w' : World) : Prop where
  b : Below B w w'
  g : ∀ (g : Nat) (cur : Array Value), B ≤ g → w.heap[g]? = some (.cells cur 26 (0, 0)) → w'.heap[g]? = some (.cells cur 26 (0, 0)) ∨
    ∃ cur', w'.heap[g]? = some (.cells cur' 26 (0, 0)) ∧ 1 ≤ pl ∧ cur'.size = cur.size ∧ (pl + 1) * 32 ≤ cur.size ∧ cur'.toList.take (pl * 32) = cur.toList.take (pl * 32) ∧ cur'.toList.take ((pl + 1) * 32) = F
section
variable {B pl : Nat} {F : List Value} {a b c w w' : World}
theorem Grw.refl (w : World) : Grw B pl F w w := ⟨Below.refl _ _, fun g cur _ h => .inl h⟩
theorem Grw.trans (a b c : World) (h : Grw B pl F a b) (k : Grw B pl F b c) : Grw B pl F a c := ⟨h.b.trans k.b, fun g cur hB hg => by
  rcases h.g g cur hB hg with h1 | ⟨cur', h1, h2, h3, h4, h5, h6⟩
  · exact k.g g cur hB h1
  · rcases k.g g cur' hB h1 with k1 | ⟨cur'', k1, k2, k3, k4, k5, k6⟩
    · exact .inr ⟨cur', k1, h2, h3, h4, h5, h6⟩
    · exact .inr ⟨cur'', k1, h2, k3.trans h3, h4, k5.trans h5, k6⟩⟩
theorem Grw.of (h : Below w.heap.size w w') (hB : B ≤ w.heap.size) : Grw B pl F w w' := ⟨h.mono hB, fun g cur _ hg => .inl (heap_below h hg)⟩
theorem Grw.own (h : Grw B pl F w w') {v : Value} {xs : List Value} (ho : w.ownsRow B 26 32 v pl xs) : w'.ownsRow B 26 32 v pl xs := by
  refine ⟨ho.1, ?_⟩
  rcases ho.2 with h1 | ⟨g, cap, cur, e, hB, hg, hc, hm, hs, ht⟩
  · exact .inl h1
  · rcases h.g g cur hB hg with h1 | ⟨cur', h1, h2, h3, h4, h5, h6⟩
    · exact .inr ⟨g, cap, cur, e, hB, h1, hc, hm, hs, ht⟩
    · exact .inr ⟨g, cap, cur', e, hB, h1, hc, hm, by rw [h3, hs], by rw [h5, ht]⟩
theorem Grw.own1 (h : Grw B pl F w w') {v : Value} (ho : w.ownsRow B 26 32 v (pl + 1) F) : w'.ownsRow B 26 32 v (pl + 1) F := by
  refine ⟨ho.1, ?_⟩
  rcases ho.2 with h1 | ⟨g, cap, cur, e, hB, hg, hc, hm, hs, ht⟩
  · exact .inl h1
  · rcases h.g g cur hB hg with h1 | ⟨cur', h1, h2, h3, h4, h5, h6⟩
    · exact .inr ⟨g, cap, cur, e, hB, h1, hc, hm, hs, ht⟩
    · exact .inr ⟨g, cap, cur', e, hB, h1, hc, hm, by rw [h3, hs], h6⟩
theorem Grw.small (h : Grw B pl F w w') {g : Nat} {cur : Array Value} (hB : B ≤ g) (hs : cur.size ≤ 32) (hg : w.heap[g]? = some (.cells cur 26 (0, 0))) : w'.heap[g]? = some (.cells cur 26 (0, 0)) := by
  rcases h.g g cur hB hg with h1 | ⟨cur', h1, h2, h3, h4, -⟩
  · exact h1
  · omega
end
/-- A row of one block of at most 32 cells, made from B on. -/
def BoxAt (B n : Nat) (C : Array Value) (v : Value) (w : World) : Prop := ∃ g, B ≤ g ∧ v = .slice (some ⟨g, 0, none⟩) n n ∧ w.heap[g]? = some (.cells C 26 (0, 0))
theorem BoxAt.stable {B pl n : Nat} {F : List Value} {C : Array Value} (hC : C.size ≤ 32) (v : Value) (w w' : World) (h : BoxAt B n C v w) (hs : Grw B pl F w w') : BoxAt B n C v w' := by
  obtain ⟨g, hB, e, hg⟩ := h
  exact ⟨g, hB, e, hs.small hB hC hg⟩
def PtrAt (B : Nat) (v : Value) (w : World) : Prop := ∃ g, B ≤ g ∧ v = .pointer (some ⟨g, 0, none⟩) ∧ w.heap[g]? = some (.cells ZId 26 (0, 0))
theorem PtrAt.stable {B pl : Nat} {F : List Value} (v : Value) (w w' : World) (h : PtrAt B v w) (hs : Grw B pl F w w') : PtrAt B v w' := by
  obtain ⟨g, hB, e, hg⟩ := h
  exact ⟨g, hB, e, hs.small hB (by decide) hg⟩
def RowAt (B pl : Nat) (xs : List Value) (v : Value) (w : World) : Prop := w.ownsRow B 26 32 v pl xs ∧ (pl = 0 → ∃ g, v = .slice (some ⟨g, 0, none⟩) 0 0)
theorem RowAt.stable {B pl : Nat} {F xs : List Value} (v : Value) (w w' : World) (h : RowAt B pl xs v w) (hs : Grw B pl F w w') : RowAt B pl xs v w' := ⟨hs.own h.1, h.2⟩
theorem own1_stable {B pl : Nat} {F : List Value} (v : Value) (w w' : World) (h : w.ownsRow B 26 32 v (pl + 1) F) (hs : Grw B pl F w w') : w'.ownsRow B 26 32 v (pl + 1) F := hs.own1 h
section
variable {w : World}
/-- Where there is no room a new block is made, and nothing turns. -/
theorem append_grow (ty : TypeId) (base g n cap : Nat) (xs : List Value) (ho : w.ownsRow base 26 32 (.slice (some ⟨g, 0, none⟩) n cap) n xs) (ad : Addr) (m c : Nat) (news : List Value) (hl : news.length = m * 32)
    (hn : ∀ j u, news[j]? = some u → w.cell? (ad.add j) = some u) (hroom : cap < n + m) (hsm : n + m ≤ 1000001) (hbase : base ≤ w.heap.size) :
    ∃ v w', (Builtin.append_ #[29, 29] ty #[.slice (some ⟨g, 0, none⟩) n cap, .slice (some ad) m c]).run Tryd.prog w = .ok v w' ∧ w'.ownsRow base 26 32 v (n + m) (xs ++ news) ∧ Below w.heap.size w w' := by
  obtain ⟨i, hi, hz, hs, hby⟩ := info_parts info_id
  have holds : ∀ j u, xs[j]? = some u → w.cell? ((⟨g, 0, none⟩ : Addr).add j) = some u := ho.cells (g := g) rfl
  have hr := run_append_grow (P := Tryd.prog) w 29 ty 26 i (.agg ZId) Tryd.underlying29 hi hz ⟨g, 0, none⟩ n cap xs (by rw [hs]; exact ho.1) holds ad m c news (by rw [hs]; exact hl) hn (by omega) (by omega) (growslice_fits (by omega) (by rw [hby]; omega))
  have hge := grownCap_ge w (n + m) cap 26
  have hcm := grownCap_le_maxLen w (n + m) cap 26 (by unfold maxLen; omega)
  have hlen : (xs ++ news).length = (n + m) * 32 := by rw [List.length_append, ho.1, hl, Nat.add_mul]
  refine ⟨_, _, hr, ⟨hlen, .inr ⟨w.heap.size, _, _, rfl, hbase, heap_alloc_new w.drew _, hge, hcm, ?_, ?_⟩⟩, ((Below.refl w.heap.size w).drew).alloc (Nat.le_refl _) _⟩
  · have hz32 : (Value.agg ZId).cells.size = 32 := rfl
    simp only [Array.size_append, List.size_toArray, size_zeroCells, hz32]
    rw [← List.length_append, hlen, ← Nat.add_mul]
    congr 1; omega
  · simp only [Array.toList_append, List.append_assoc]
    rw [← List.append_assoc, ← hlen]
    exact List.take_left
/-- One more digest behind a row. -/
theorem append_one (ty : TypeId) (B pl : Nat) (xs news : List Value) (v : Value) (h : RowAt B pl xs v w) (ad : Addr) (c : Nat) (hl : news.length = 1 * 32) (hn : ∀ j u, news[j]? = some u → w.cell? (ad.add j) = some u) (h1 : ∀ u ∈ news, u.oneCell' = true) (hsm : pl ≤ 1000000) (hbase : B ≤ w.heap.size) :
    ∃ v' w', (Builtin.append_ #[29, 29] ty #[v, .slice (some ad) 1 c]).run Tryd.prog w = .ok v' w' ∧ w'.ownsRow B 26 32 v' (pl + 1) (xs ++ news) ∧ Grw B pl (xs ++ news) w w' := by
  obtain ⟨ho, h0⟩ := h
  have hv : ∃ g cap, v = .slice (some ⟨g, 0, none⟩) pl cap ∧ (pl = 0 → cap = 0) := by
    by_cases hp : pl = 0
    · obtain ⟨g, e⟩ := h0 hp
      exact ⟨g, 0, by rw [e, hp], fun _ => rfl⟩
    · obtain ⟨g, cap, e, -⟩ := ho.form (by omega)
      exact ⟨g, cap, e, fun h => absurd h hp⟩
  obtain ⟨g, cap, rfl, hcap⟩ := hv
  by_cases hroom : cap < pl + 1
  · obtain ⟨v', w', hr, h2, h3⟩ := append_grow ty B g pl cap xs ho ad 1 c news hl hn hroom (by omega) hbase
    exact ⟨v', w', hr, h2, Grw.of h3 hbase⟩
  · obtain ⟨i, hi, hz, hs, hby⟩ := info_parts info_id
    have hpl : 1 ≤ pl := by
      rcases Nat.eq_zero_or_pos pl with h | h
      · have := hcap h; omega
      · exact h
    rcases ho.2 with ⟨e, -⟩ | ⟨g', cap', cur, e, hB, hg, hc, hm, hcs, ht⟩
    · cases e
    · injection e with e1 e2 e3
      injection e1 with e1
      injection e1 with e1
      subst e1 e3
      have hfit : pl * i.size + news.length ≤ cur.size := by rw [hs, hl, hcs, ← Nat.add_mul]; exact Nat.mul_le_mul_right _ (by omega)
      have hr := run_append_room (P := Tryd.prog) w 29 ty 26 i Tryd.underlying29 hi g pl cap cur hg ad 1 c news (by rw [hs]; exact hl) hn h1 (by omega) hfit
      rw [hs] at hr hfit
      have hlen : (xs ++ news).length = (pl + 1) * 32 := by rw [List.length_append, ho.1, hl, Nat.add_mul]
      have hsz : ((cur.toList.take (pl * 32) ++ news ++ cur.toList.drop (pl * 32 + news.length)).toArray).size = cur.size := by
        simp only [List.size_toArray, List.length_append, List.length_take, List.length_drop, Array.length_toList]
        omega
      have htk : ((cur.toList.take (pl * 32) ++ news ++ cur.toList.drop (pl * 32 + news.length)).toArray).toList.take ((pl + 1) * 32) = xs ++ news := by
        show (cur.toList.take (pl * 32) ++ news ++ cur.toList.drop (pl * 32 + news.length)).take ((pl + 1) * 32) = _
        rw [ht, ← hlen]
        exact List.take_left
      have htk2 : ((cur.toList.take (pl * 32) ++ news ++ cur.toList.drop (pl * 32 + news.length)).toArray).toList.take (pl * 32) = cur.toList.take (pl * 32) := by
        show (cur.toList.take (pl * 32) ++ news ++ cur.toList.drop (pl * 32 + news.length)).take (pl * 32) = _
        rw [List.append_assoc]
        have : (cur.toList.take (pl * 32)).length = pl * 32 := by simp; omega
        exact List.take_left' this
      generalize (cur.toList.take (pl * 32) ++ news ++ cur.toList.drop (pl * 32 + news.length)).toArray = cs at *
      refine ⟨_, _, hr, ⟨hlen, .inr ⟨g, cap, cs, rfl, hB, setRow_heap w g cur cs _ _ hg, by omega, hm, by rw [hsz, hcs], htk⟩⟩, ⟨below_setRow (Below.refl _ _) hB cs, fun g' cur' hB' hg' => ?_⟩⟩
      by_cases hgg : g' = g
      · subst hgg
        rw [hg] at hg'
        injection hg' with hg'; injection hg' with hg'; subst hg'
        exact .inr ⟨cs, setRow_heap w g' cur cs _ _ hg, hpl, hsz, by rw [hcs]; exact Nat.mul_le_mul_right _ (by omega), htk2, htk⟩
      · exact .inl (by rw [setRow_other w g g' cs hgg]; exact hg')
/-- A row copied behind an empty one. -/
theorem append_copy (ty : TypeId) (B B0 pl cp : Nat) (Ap : Option Addr) (xs : List Value) (v : Value) (h : BoxAt B 0 #[] v w) (hx : w.ownsRow B0 26 32 (.slice Ap pl cp) pl xs) (h1 : ∀ u ∈ xs, u.oneCell' = true) (hsm : pl ≤ 1000000) (hbase : B ≤ w.heap.size) :
    ∃ v' w', (Builtin.append_ #[29, 29] ty #[v, .slice Ap pl cp]).run Tryd.prog w = .ok v' w' ∧ RowAt B pl xs v' w' ∧ Below w.heap.size w w' := by
  obtain ⟨g, hB, rfl, hg⟩ := h
  obtain ⟨i, hi, hz, hs, hby⟩ := info_parts info_id
  have ho : w.ownsRow B 26 32 (.slice (some ⟨g, 0, none⟩) 0 0) 0 [] := ⟨rfl, .inr ⟨g, 0, #[], rfl, hB, hg, Nat.le_refl _, by unfold maxLen; omega, rfl, rfl⟩⟩
  rcases hx.2 with ⟨e, h0⟩ | ⟨gp, cap, cur, e, -⟩
  · injection e with e1 e2 e3
    subst e1 e2 e3
    have hxs : xs = [] := List.eq_nil_of_length_eq_zero (by simpa using hx.1)
    subst hxs
    have hr := run_append_owned_none (P := Tryd.prog) (w := w) B 29 ty 26 i 32 Tryd.underlying29 hi _ 0 [] ho
    exact ⟨_, w, hr, ⟨ho, fun _ => ⟨g, rfl⟩⟩, Below.refl _ _⟩
  · injection e with e1 e2 e3
    subst e1 e3
    have hn : ∀ j u, xs[j]? = some u → w.cell? ((⟨gp, 0, none⟩ : Addr).add j) = some u := hx.cells (g := gp) rfl
    by_cases hp : pl = 0
    · subst hp
      have hxs : xs = [] := List.eq_nil_of_length_eq_zero (by simpa using hx.1)
      subst hxs
      have hr := run_append_room (P := Tryd.prog) w 29 ty 26 i Tryd.underlying29 hi g 0 0 #[] hg ⟨gp, 0, none⟩ 0 cp [] (by simp) (by simp) (by simp) (by omega) (by simp)
      have e0 : ((#[] : Array Value).toList.take (0 * i.size) ++ [] ++ (#[] : Array Value).toList.drop (0 * i.size + ([] : List Value).length)).toArray = #[] := by simp
      rw [e0] at hr
      refine ⟨_, _, hr, ⟨⟨rfl, .inr ⟨g, 0, #[], rfl, hB, setRow_heap w g #[] #[] _ _ hg, Nat.le_refl _, by unfold maxLen; omega, rfl, rfl⟩⟩, fun _ => ⟨g, rfl⟩⟩, ⟨rfl, rfl, rfl, by simp, fun k hk => ?_⟩⟩
      by_cases hkg : k = g
      · subst hkg
        rw [setRow_heap w k #[] #[] _ _ hg, hg]
      · exact setRow_other w g k #[] hkg
    · obtain ⟨v', w', hr, h2, h3⟩ := append_grow ty B g 0 0 [] ho ⟨gp, 0, none⟩ pl cp xs hx.1 hn (by omega) (by omega) hbase
      rw [Nat.zero_add, List.nil_append] at h2
      exact ⟨v', w', hr, ⟨h2, fun h => absurd h hp⟩, h3⟩
end
theorem does_append {o : Oper} {a : Act} {w w' : World} {R : Value → World → Prop} (s x : Operand) (t : TypeId) (v u v' : Value) (ho : o.op = .call { callee := .builtin .append, args := #[s, x], argTypes := #[t, t] }) (hs : a.eval s = v) (hx : a.eval x = u)
    (hr : (Builtin.append_ #[t, t] o.type #[v, u]).run Tryd.prog w = .ok v' w') (h : R v' w') : doesR Tryd.prog o a w R := by
  unfold doesR execOp
  simp only [ho, resolve, invoke, builtin, Sem.run_bind, Sem.run_pure, Result.andThen_ok, List.map_toArray, List.map_cons, List.map_nil, hs, hx, hr]
  exact h
/-- No digest stored where none stands: nothing turns. -/
theorem does_store_zero {o : Oper} {a : Act} {w : World} {B pl : Nat} {F : List Value} (x y : Operand) (ho : o.op = .store 26 x y) (v : Value) (hx : a.eval x = v) (hv : PtrAt B v w) (hy : a.eval y = .agg ZId) : doesR Tryd.prog o a w (fun _ w' => True ∧ Grw B pl F w w') := by
  obtain ⟨g, hB, rfl, hg⟩ := hv
  unfold doesR execOp
  simp only [ho, hx, hy, Instr.storeAt, Instr.sureAddr, Sem.run_bind, Sem.run_pure, Result.andThen_ok, run_storeVar_row w g _ 26 ZId ZId hg info_z rfl (by kernel_rfl)]
  refine ⟨trivial, below_setRow (Below.refl _ _) hB ZId, fun g' cur hB' hg' => .inl ?_⟩
  by_cases h : g' = g
  · subst h
    rw [setRow_heap w g' ZId ZId _ _ hg, ← hg', hg]
  · rw [setRow_other w g g' ZId h]; exact hg'
theorem climbZ_long {x : List B8} {k : Nat} {ls pd : List (List B8)} {R : List B8} (hk : k < ls.length) (hm : ls.length ≤ 1048576) (hpd : pd = pathD ls k) : climbZ x (k : Int) (ls.length : Int) (pd ++ [R]) = none := by
  rw [climbZ_nat hk hm]
  exact climb_short (ls := ls) rfl (by rw [← hpd]; simp)
end Go.Proofs.YtppkjlmnnpfcfaaDoor
