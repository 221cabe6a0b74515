/- Bytes appended to a row of one's own, in a region that draws its order. -/
import Derived.Test.YtgjplbanfnomkaaLtDX
import Derived.Maps.AppendAt
set_option linter.unusedVariables false
set_option linter.unusedSimpArgs false
namespace Go.Proofs.Ytgjplbanfnomkaa
open Go.RowKit
set_option maxRecDepth 100000 in
theorem cls_load_cell {P : Program} {C : World → Prop} {o : Oper} {a : Act} {K : Act → Prop} (ty : TypeId) (x : Operand) (ho : o.op = .load ty x) (ad : Addr) (hx : a.eval x = .pointer (some ad)) (v : Value) (hr : ∀ w, w.cell? ad = some v → (Instr.loadAt ty (.pointer (some ad))).run P w = .ok v w)
    (hS : ∀ w, C w → w.cell? ad = some v) (hK : K (a.put o.dst v)) : o.quiet P a C K :=
  ⟨_, fun w hw => by
    unfold Oper.quietAt execOp
    simp only [ho, hx, Sem.run_bind, hr w (hS w hw), Result.andThen_ok, Sem.run_pure, Oper.quietUpon, and_self], hK⟩
set_option maxRecDepth 100000 in
theorem turn_stp' {w w' : World} (t : Turn (fun _ => False) w w') : Below w.heap.size w w' := t.below (fun _ _ h => h.elim) (Nat.le_refl _)
set_option maxRecDepth 100000 in
theorem does_append {o : Oper} {a : Act} {w w' : World} {R : Value → World → Prop} (s x : Operand) (t : TypeId) (v u v' : Value) (ho : o.op = .call { callee := .builtin .append, args := #[s, x], argTypes := #[t, t] }) (hs : a.eval s = v) (hx : a.eval x = u)
    (hr : (Builtin.append_ #[t, t] o.type #[v, u]).run Try.prog w = .ok v' w') (h : R v' w') : doesR Try.prog o a w R := by
  unfold doesR execOp
  simp only [ho, resolve, invoke, builtin, Sem.run_bind, Sem.run_pure, Result.andThen_ok, List.map_toArray, List.map_cons, List.map_nil, hs, hx, hr]
  exact h
/-- Nothing turns but the row's block, and that one only to hold F behind its first q cells. -/
structure Gp (row : Option Nat) (q : Nat) (F : List Value) (w w' : World) : Prop where
  t : Turn (fun k => row = some k) w w'
  r : ∀ k cur ty, row = some k → w.heap[k]? = some (.cells cur ty (0, 0)) → ∃ cur' : Array Value, w'.heap[k]? = some (.cells cur' ty (0, 0)) ∧ cur'.size = cur.size ∧ ∀ j, cur'[j]? = cur[j]? ∨ (q ≤ j ∧ cur'[j]? = F[j]?)
section
variable {row : Option Nat} {q : Nat} {F : List Value}
set_option maxRecDepth 100000 in
theorem Gp.refl (w : World) : Gp row q F w w := ⟨Turn.refl _ _, fun k cur ty _ h => ⟨cur, h, rfl, fun _ => .inl rfl⟩⟩
set_option maxRecDepth 100000 in
theorem Gp.trans (a b c : World) (h : Gp row q F a b) (k : Gp row q F b c) : Gp row q F a c := ⟨h.t.trans k.t (fun _ _ h => h), fun i cur ty hi hc => by
  obtain ⟨c1, g1, g2, g3⟩ := h.r i cur ty hi hc
  obtain ⟨c2, f1, f2, f3⟩ := k.r i c1 ty hi g1
  refine ⟨c2, f1, f2.trans g2, fun j => ?_⟩
  rcases f3 j with e | ⟨e1, e2⟩
  · rcases g3 j with e' | ⟨e1', e2'⟩
    · exact .inl (e.trans e')
    · exact .inr ⟨e1', e.trans e2'⟩
  · exact .inr ⟨e1, e2⟩⟩
set_option maxRecDepth 100000 in
theorem Gp.of {w w' : World} (h : Turn (fun _ => False) w w') : Gp row q F w w' := ⟨h.mono (fun _ _ h => h.elim), fun k cur ty _ hk => ⟨cur, h.heap hk (fun h => h), rfl, fun _ => .inl rfl⟩⟩
set_option maxRecDepth 100000 in
theorem Gp.size {w w' : World} (h : Gp row q F w w') : w.heap.size ≤ w'.heap.size := h.t.size
/-- The row with ys behind it, where it was or in a block of its own. -/
def OA (B : Nat) (row : Option Nat) (q : Nat) (xs ys : List Value) (v : Value) (w : World) : Prop := w.ownsRow B 5 1 v (q + ys.length) (xs ++ ys) ∧ (v.ownBlock = row ∨ ∀ g, v.ownBlock = some g → row ≠ some g)
set_option maxRecDepth 100000 in
theorem OA.stable {B : Nat} {xs ys : List Value} (hx : xs.length = q) (v : Value) (w w' : World) (h : OA B row q xs ys v w) (hs : Gp row q (xs ++ ys) w w') : OA B row q xs ys v w' := by
  obtain ⟨ho, hr⟩ := h
  refine ⟨?_, hr⟩
  rcases hr with hr | hr
  · obtain ⟨o1, o2⟩ := ho
    refine ⟨o1, ?_⟩
    rcases o2 with o2 | ⟨g, cap, cur, rfl, hg, hh, hn, hc, hsz, ht⟩
    · exact .inl o2
    · obtain ⟨c, e1, e2, e3⟩ := hs.r g cur _ hr.symm hh
      refine .inr ⟨g, cap, c, rfl, hg, e1, hn, hc, e2.trans hsz, ?_⟩
      have hlen : (xs ++ ys).length = q + ys.length := by rw [List.length_append, hx]
      rw [← ht]
      apply List.ext_getElem?
      intro j
      rw [List.getElem?_take, List.getElem?_take]
      split
      · rename_i hj
        rw [Array.getElem?_toList, Array.getElem?_toList]
        rcases e3 j with e | ⟨-, e⟩
        · exact e
        · rw [e, ← ht, List.getElem?_take, if_pos hj, Array.getElem?_toList]
      · rfl
  · exact own_turnA hs.t ho (fun g e => hr g e)
where own_turnA {B n : Nat} {xs : List Value} {v : Value} {w w' : World} {row : Option Nat} (t : Turn (fun k => row = some k) w w') (ho : w.ownsRow B 5 1 v n xs) (hn : ∀ g, v.ownBlock = some g → row ≠ some g) : w'.ownsRow B 5 1 v n xs := t.own ho (fun g e => hn g e)
set_option maxRecDepth 100000 in
theorem own_gp {H n : Nat} {xs : List Value} (hrow : ∀ k, row = some k → k < H) (v : Value) (w w' : World) (h : w.ownsRow H 5 1 v n xs) (hs : Gp row q F w w') : w'.ownsRow H 5 1 v n xs :=
  hs.t.own h (fun g e hg => by have := (h.lt g e).1; have := hrow g hg; omega)
end
set_option maxRecDepth 100000 in
theorem own_front {B q : Nat} {xs ys : List Value} {u : Value} {w w' : World} (hx : xs.length = q) (hu : w.ownsRow B 5 1 u q xs) (hs : Gp u.ownBlock q (xs ++ ys) w.drew w') : w'.ownsRow B 5 1 u q xs := by
  obtain ⟨o1, o2⟩ := hu
  refine ⟨o1, ?_⟩
  rcases o2 with o2 | ⟨g, cap, cur, rfl, hg, hh, hn, hc, hsz, ht⟩
  · exact .inl o2
  · obtain ⟨c, e1, e2, e3⟩ := hs.r g cur _ rfl hh
    refine .inr ⟨g, cap, c, rfl, hg, e1, hn, hc, e2.trans hsz, ?_⟩
    rw [← ht]
    apply List.ext_getElem?
    intro j
    rw [List.getElem?_take, List.getElem?_take]
    split
    · rename_i hj
      rw [Array.getElem?_toList, Array.getElem?_toList]
      rcases e3 j with e | ⟨e, -⟩
      · exact e
      · omega
    · rfl
set_option maxRecDepth 100000 in
theorem bytesPush (ty : TypeId) (B q : Nat) (xs ys : List Value) (w : World) (u : Value) (hu : w.ownsRow B 5 1 u q xs) (hq : 0 < q) (A : Option Addr) (c m : Nat) (hA : A = none → c = 0) (hl : ys.length = m) (hs : ∀ (j : Nat) (v : Value), ys[j]? = some v → ∃ ad, A = some ad ∧ w.cell? (ad.add j) = some v) (hc : m ≤ c) (h1 : ∀ v ∈ ys, v.oneCell' = true) (hn : q + m ≤ 1099511627776) (hB : B ≤ w.heap.size) :
    ∃ v' w', (Builtin.append_ #[34, 34] ty #[u, .slice A m c]).run Try.prog w = .ok v' w' ∧ OA B u.ownBlock q xs ys v' w' ∧ Gp u.ownBlock q (xs ++ ys) w w' := by
  obtain ⟨i, hi, hz, hs1, hby⟩ := info_parts info_u8
  have hu0 := hu
  obtain ⟨hxl, o2⟩ := hu
  rcases o2 with ⟨-, h0⟩ | ⟨g, cap, cur, rfl, hbg, hg, hnc, hcm, hcs, htake⟩
  · omega
  have hxq : xs.length = q := by omega
  have hcs1 : cur.size = cap := by omega
  cases A with
  | none =>
    obtain rfl := hA rfl
    obtain rfl : m = 0 := by omega
    obtain rfl : ys = [] := List.eq_nil_of_length_eq_zero hl
    have hr := run_append_owned_none (P := Try.prog) (w := w) B 34 ty 5 i 1 Try.underlying34 hi _ q xs hu0
    exact ⟨_, w, hr, ⟨by simpa using hu0, .inl rfl⟩, Gp.refl _⟩
  | some ad =>
    have hn2 : ∀ j v, ys[j]? = some v → w.cell? (ad.add j) = some v := fun j v hv => by
      obtain ⟨ad', e, hc⟩ := hs j v hv
      injection e with e; subst e; exact hc
    by_cases hroom : q + m ≤ cap
    · have hfit : q * i.size + ys.length ≤ cur.size := by rw [hs1]; omega
      have hr := run_append_room (P := Try.prog) w 34 ty 5 i Try.underlying34 hi g q cap cur hg ad m c ys (by rw [hs1]; omega) hn2 h1 hroom hfit
      rw [hs1, Nat.mul_one] at hr
      obtain ⟨C, hC⟩ : ∃ C : Array Value, C = (cur.toList.take q ++ ys ++ cur.toList.drop (q + ys.length)).toArray := ⟨_, rfl⟩
      rw [← hC] at hr
      have hCs : C.size = cur.size := by
        rw [hC]
        simp only [List.size_toArray, List.length_append, List.length_take, List.length_drop, Array.length_toList]
        omega
      have hqt : cur.toList.take q = xs := by rw [← htake, Nat.mul_one]
      have hCt : C.toList = (xs ++ ys) ++ cur.toList.drop (q + ys.length) := by rw [hC, List.toList_toArray, hqt]
      have hsr := setRow_heap w g cur C 5 (0, 0) hg
      have hfl : (xs ++ ys).length = q + ys.length := by rw [List.length_append, hxq]
      refine ⟨_, _, hr, ⟨⟨by rw [hfl, Nat.mul_one], .inr ⟨g, cap, C, by rw [hl], hbg, hsr, by omega, hcm, by omega, ?_⟩⟩, .inl rfl⟩, ⟨(Turn.refl _ _).setRow g C (fun _ => rfl), fun k c2 ty2 hk hkc => ?_⟩⟩
      · rw [Nat.mul_one, hCt, ← hfl]
        exact List.take_left
      · have hk : some g = some k := hk
        injection hk with hk
        subst hk
        rw [hg] at hkc
        injection hkc with hkc
        injection hkc with e1 e2
        subst e1; subst e2
        refine ⟨C, hsr, hCs, fun j => ?_⟩
        rw [← Array.getElem?_toList, ← Array.getElem?_toList, hCt]
        rcases Nat.lt_or_ge j q with hj | hj
        · left
          rw [List.append_assoc, List.getElem?_append_left (by omega), ← hqt, List.getElem?_take, if_pos hj]
        · rcases Nat.lt_or_ge j (q + ys.length) with hj2 | hj2
          · right
            exact ⟨hj, by rw [List.getElem?_append_left (by omega)]⟩
          · left
            rw [List.getElem?_append_right (by omega), hfl, List.getElem?_drop]
            congr 1; omega
    · have holds : ∀ j v, xs[j]? = some v → w.cell? ((⟨g, 0, none⟩ : Addr).add j) = some v := hu0.cells (g := g) rfl
      have hr := run_append_grow (P := Try.prog) w 34 ty 5 i (.int .u8 0) Try.underlying34 hi hz ⟨g, 0, none⟩ q cap xs (by rw [hs1]; omega) holds ad m c ys (by rw [hs1]; omega) hn2 (by omega) (by omega) (growslice_fits (by omega) (by rw [hby]; omega))
      have hge := grownCap_ge w (q + m) cap 5
      have hcm := grownCap_le_maxLen w (q + m) cap 5 (by unfold maxLen; omega)
      have hfl : (xs ++ ys).length = q + ys.length := by rw [List.length_append, hxq]
      have hglt := lt_of_block hg
      refine ⟨_, _, hr, ⟨⟨by rw [hfl, Nat.mul_one], .inr ⟨w.heap.size, _, _, by rw [hl], hB, heap_alloc_new w.drew _, by omega, hcm, ?_, ?_⟩⟩, .inr (fun g' e hg' => ?_)⟩, Gp.of (((Turn.refl _ _).drew).alloc _)⟩
      · have hz32 : (Value.int IntKind.u8 0).cells.size = 1 := rfl
        simp only [Array.size_append, List.size_toArray, size_zeroCells, hz32]
        omega
      · simp only [Array.toList_append]
        rw [Nat.mul_one, ← hfl]
        exact List.take_left
      · have e : some w.heap.size = some g' := e
        have hg' : some g = some g' := hg'
        rw [← e] at hg'
        injection hg' with hg'
        omega
end Go.Proofs.Ytgjplbanfnomkaa
