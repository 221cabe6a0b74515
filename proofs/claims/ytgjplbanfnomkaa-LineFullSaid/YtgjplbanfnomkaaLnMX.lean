/- Merged: The landed line: slices.Insert, slices.Replace. The landed line: slices.Replace. -/
import Derived.Test.YtgjplbanfnomkaaLnL
import Derived.Test.YtgjplbanfnomkaaApm
namespace Go.Proofs.Ytgjplbanfnomkaa
section
set_option linter.unusedVariables false
set_option linter.unusedSimpArgs false

open Go.RowKit
set_option maxRecDepth 100000
theorem wpList_append_run {P : Program} {w : World} {ops : Array Oper} {rest : List Oper} {o : Oper} {a : Act} {Q : Exit → Act → World → Prop} (hgd : o.guard = none) (s x : Operand) (t : TypeId) (ho : o.op = .call { callee := .builtin .append, args := #[s, x], argTypes := #[t, t] })
    (v u v' : Value) (w' : World) (hs : a.eval s = v) (hx : a.eval x = u) (hr : (Builtin.append_ #[t, t] o.type #[v, u]).run P w = .ok v' w') (h : wpList P ops Q rest (a.put o.dst v') w') : wpList P ops Q (o :: rest) a w := by
  refine wpList_plain hgd fun K hK => ?_
  unfold Oper.wp execOp
  simp only [ho, resolve, invoke, builtin, Sem.run_bind, Sem.run_pure, Result.andThen_ok, List.map_toArray, List.map_cons, List.map_nil, hs, hx, hr]
  exact hK _ _ h
theorem wpList_clear_run {P : Program} {w : World} {ops : Array Oper} {rest : List Oper} {o : Oper} {a : Act} {Q : Exit → Act → World → Prop} (hgd : o.guard = none) (x : Operand) (t : TypeId) (ho : o.op = .call { callee := .builtin .clear, args := #[x], argTypes := #[t] })
    (u v' : Value) (w' : World) (hx : a.eval x = u) (hr : (Builtin.clear_ #[t] o.type #[u]).run P w = .ok v' w') (h : wpList P ops Q rest (a.put o.dst v') w') : wpList P ops Q (o :: rest) a w := by
  refine wpList_plain hgd fun K hK => ?_
  unfold Oper.wp execOp
  simp only [ho, resolve, invoke, builtin, Sem.run_bind, Sem.run_pure, Result.andThen_ok, List.map_toArray, List.map_cons, List.map_nil, hx, hr]
  exact hK _ _ h
theorem zero_item (w : World) : (zeroValue 36).run Try.prog w = .ok (.agg #[.int .i64 0, .slice none 0 0]) w := by kernel_rfl
theorem zero_cells (n : Nat) : ((Builtin.zeroCells (Value.agg #[.int .i64 0, .slice none 0 0]).cells n).toList).length = n * 2 ∧ ∀ u ∈ (Builtin.zeroCells (Value.agg #[.int .i64 0, .slice none 0 0]).cells n).toList, u.oneCell' = true := by
  have hs := size_zeroCells (Value.agg #[.int .i64 0, .slice none 0 0]).cells n
  have h2 : (Value.agg #[.int .i64 0, .slice none 0 0]).cells.size = 2 := rfl
  rw [h2] at hs
  refine ⟨by rw [Array.length_toList]; omega, fun u hu => ?_⟩
  obtain ⟨j, hj⟩ := List.mem_iff_getElem?.1 hu
  have hjl := (List.getElem?_eq_some_iff.1 hj).1
  rw [Array.getElem?_toList] at hj
  unfold Builtin.zeroCells at hj
  rw [Array.getElem?_map] at hj
  simp only [Option.map_eq_some_iff] at hj
  obtain ⟨i, -, hj⟩ := hj
  rcases Nat.mod_two_eq_zero_or_one i with e | e
  · have : (#[Value.int .i64 0, Value.slice none 0 0] : Array Value)[i % 2]! = .int .i64 0 := by rw [e]; rfl
    rw [← hj]
    show ((#[Value.int .i64 0, Value.slice none 0 0] : Array Value)[i % 2]!).oneCell' = true
    rw [this]; rfl
  · have : (#[Value.int .i64 0, Value.slice none 0 0] : Array Value)[i % 2]! = .slice none 0 0 := by rw [e]; rfl
    rw [← hj]
    show ((#[Value.int .i64 0, Value.slice none 0 0] : Array Value)[i % 2]!).oneCell' = true
    rw [this]; rfl
/-- What an append to the front of a row comes to, as a call's post. -/
def RpPost (n m cap B : Nat) (row : Option Nat) (xs : List Value) (R : List Value → World → Prop) (w : World) (r : Ending) (w' : World) : Prop :=
  ∃ v', r = .returned v' ∧ ApdM 36 2 n m cap B row xs R v' w' ∧ ApM 36 2 n m cap row xs R w w'
section
variable {n m cap B : Nat} {xs ds : List Value} {R : List Value → World → Prop}
set_option maxHeartbeats 4000000 in
theorem linsert_any (A : Option Addr) (w : World) (ho : w.ownsRow 0 36 2 (.slice A n cap) n xs) (hR : ∀ news w w', R news w → Turn (fun k => (Value.slice A n cap).ownBlock = some k) w w' → R news w') (hB : B ≤ w.heap.size) (a2 c2 : Nat) (hl : ds.length = m * 2) (hds : ∀ j u, ds[j]? = some u → w.cell? ⟨a2, j, none⟩ = some u) (h1 : ∀ u ∈ ds, u.oneCell' = true) (hr : R ds w) (hm : 0 < m) (hs : n + m ≤ 1000000) :
    Calls Try.prog 61 #[.slice A n cap, .int .i64 (n : Int), .slice (some ⟨a2, 0, none⟩) m c2] w (RpPost n m cap B (Value.slice A n cap).ownBlock xs R w) := by
  obtain ⟨i0, hi, hz0, hz1, hz2⟩ := info_parts it_info
  obtain ⟨v', w', h2, h3, h4, -⟩ := run_apM (P := Try.prog) (B := B) (cap := cap) 27 27 i0 _ 32 Try.underlying27 hi hz0 hz1 hz2 (by rfl) (by decide) hm hR w (.slice A n cap) ho rfl (fun q n' c e => by injection e with _ _ e; exact e.symm) (fun q e => (row_block ho e).elim fun cur h => lt_of_block h.1) hB ⟨a2, 0, none⟩ c2 ds hl (fun j u hu => by rw [Addr.add_lit, Nat.zero_add]; exact hds j u hu) h1 hr (by unfold maxLen; omega) (by omega)
  obtain ⟨A', c', e, hc, hcm, hA, hA2⟩ := row_slice ho
  injection e with e1 e2 e3
  subst e1 e3
  have H2 := Lib.hid h2
  have H3 := Lib.hid h3
  have H4 := Lib.hid h4
  unfold maxLen at hcm
  clear ho hR hds h1 hr h2 h3 h4 hl
  rcases hA2 with rfl | ⟨b, rfl, -, -⟩
  · obtain rfl := hA rfl
    obtain rfl : n = 0 := by omega
    clear hA
    go_enter Try.func61, Try.ntmps61
    go_upto_region 7 with fail
    go_wp2_with (at_builtin; refine stop ?_)
    unfold Stop
    refine wpList_append_run (o := ⟨some 25, _, _, _, _, _⟩) rfl _ _ 27 rfl _ _ _ _ rfl rfl H2.out ?_
    go_wp2
    go_ret
    exact ⟨_, rfl, H3.out, H4.out⟩
  · clear hA
    by_cases hlt : n < cap
    · skip
      go_enter Try.func61, Try.ntmps61
      go_upto_region 7 with fail
      go_wp2_with (at_builtin; refine stop ?_)
      unfold Stop
      refine wpList_append_run (o := ⟨some 25, _, _, _, _, _⟩) rfl _ _ 27 rfl _ _ _ _ rfl rfl H2.out ?_
      go_wp2
      go_ret
      exact ⟨_, rfl, H3.out, H4.out⟩
    · obtain rfl : n = cap := by omega
      go_enter Try.func61, Try.ntmps61
      go_upto_region 7 with fail
      go_wp2_with (at_builtin; refine stop ?_)
      unfold Stop
      refine wpList_append_run (o := ⟨some 25, _, _, _, _, _⟩) rfl _ _ 27 rfl _ _ _ _ rfl rfl H2.out ?_
      go_wp2
      go_ret
      exact ⟨_, rfl, H3.out, H4.out⟩
end

end
section
set_option linter.unusedVariables false
set_option linter.unusedSimpArgs false

open Go.RowKit
set_option maxRecDepth 100000
theorem apm_clear {w : World} {b q m i cap B : Nat} {xs : List Value} {R : List Value → World → Prop} (hR : ∀ news w w', R news w → Turn (fun k => some b = some k) w w' → R news w') (hq : q = i + m) (h : ApdM 36 2 i m cap B (some b) xs R (.slice (some ⟨b, 0, none⟩) q cap) w) (hqc : q ≤ cap) (hcm : cap ≤ maxLen) (L : List Value) :
    ApM 36 2 i m cap (some b) xs R w (w.setCells b (q * 2) L) := by
  subst hq
  obtain ⟨news, hr, ho, hx, -⟩ := h
  have T : Turn (fun k => some b = some k) w (w.setCells b ((i + m) * 2) L) := (turn_setCells b L ((i + m) * 2) w).mono (fun k _ e => by rw [e])
  refine ⟨T, fun g e => .inr ?_⟩
  injection e with e
  subst e
  obtain ⟨o1, o2⟩ := ho
  rcases o2 with ⟨e, -⟩ | ⟨g, c, cur, e, -, hg, hn, hc, hs, ht⟩
  · cases e
  · injection e with e1 _ e3
    injection e1 with e1
    injection e1 with e1
    subst e1 e3
    obtain ⟨cur', h1, h2, h3⟩ := heap_setCells b L ((i + m) * 2) w cur _ hg
    refine ⟨b, cur', news, rfl, h1, by rw [h2, hs], hqc, hcm, hx, o1, ?_, hR _ _ _ hr T⟩
    rw [← ht]
    apply List.ext_getElem?
    intro j
    rw [List.getElem?_take, List.getElem?_take]
    split
    · rw [Array.getElem?_toList, Array.getElem?_toList]; exact h3 j (by assumption)
    · rfl
section
variable {n m cap B i : Nat} {xs ds : List Value} {R : List Value → World → Prop}
set_option maxHeartbeats 8000000 in
theorem lreplace_any (A : Option Addr) (w : World) (ho : w.ownsRow 0 36 2 (.slice A i cap) i xs) (hi : i ≤ n) (hn : n ≤ cap) (hR : ∀ news w w', R news w → Turn (fun k => (Value.slice A i cap).ownBlock = some k) w w' → R news w') (hB : B ≤ w.heap.size) (hBr : ∀ g, (Value.slice A i cap).ownBlock = some g → g < B) (a2 c2 : Nat) (hl : ds.length = m * 2) (hds : ∀ j u, ds[j]? = some u → w.cell? ⟨a2, j, none⟩ = some u) (h1 : ∀ u ∈ ds, u.oneCell' = true) (hr : R ds w) (hm : 0 < m) (hs : n + m ≤ 1000000) :
    Calls Try.prog 41 #[.slice A n cap, .int .i64 (i : Int), .int .i64 (n : Int), .slice (some ⟨a2, 0, none⟩) m c2] w (RpPost i m cap B (Value.slice A i cap).ownBlock xs R w) := by
  obtain ⟨A', c', e, hc, hcm, hA, hA2⟩ := row_slice ho
  injection e with e1 e2 e3
  subst e1 e3
  by_cases hin : i = n
  · subst hin
    have HI := Lib.hid ((linsert_any (m := m) (B := B) (xs := xs) (ds := ds) (R := R) A w ho hR hB a2 c2 hl hds h1 hr hm hs).mono (fun r w' h => show ∃ v', r = .returned v' ∧ RpPost i m cap B (Value.slice A i cap).ownBlock xs R w r w' from by obtain ⟨v', e, h⟩ := h; exact ⟨v', e, v', e, h⟩))
    clear ho hR hds h1 hr hl hBr
    unfold maxLen at hcm
    generalize RpPost i m cap B (Value.slice A i cap).ownBlock xs R w = PP at *
    rcases hA2 with rfl | ⟨b, rfl, -, -⟩
    · obtain rfl := hA rfl
      obtain rfl : i = 0 := by omega
      clear hA
      go_enter Try.func41, Try.ntmps41
      go_wp2_with (go_at_call 61; refine stop ?_)
      unfold Stop
      refine HI.out.mono ?_
      rintro r w1 ⟨v1, rfl, h1⟩
      have H1 := Lib.hid h1
      clear h1 HI
      go_wp2
      exact H1.out
    · clear hA
      by_cases hlt : i < cap
      · skip
        go_enter Try.func41, Try.ntmps41
        go_wp2_with (go_at_call 61; refine stop ?_)
        unfold Stop
        refine HI.out.mono ?_
        rintro r w1 ⟨v1, rfl, h1⟩
        have H1 := Lib.hid h1
        clear h1 HI
        go_wp2
        exact H1.out
      · obtain rfl : i = cap := by omega
        go_enter Try.func41, Try.ntmps41
        go_wp2_with (go_at_call 61; refine stop ?_)
        unfold Stop
        refine HI.out.mono ?_
        rintro r w1 ⟨v1, rfl, h1⟩
        have H1 := Lib.hid h1
        clear h1 HI
        go_wp2
        exact H1.out
  · rcases hA2 with rfl | ⟨b, rfl, -, -⟩
    · have := hA rfl; omega
    obtain ⟨i0, hi0, hz0, hz1, hz2⟩ := info_parts it_info
    obtain ⟨v', w', h2, h3, h4, h5⟩ := run_apM (P := Try.prog) (B := B) (cap := cap) 27 27 i0 _ 32 Try.underlying27 hi0 hz0 hz1 hz2 (by rfl) (by decide) hm hR w (.slice (some ⟨b, 0, none⟩) i cap) ho rfl (fun q n' c e => by injection e with _ _ e; exact e.symm) (fun q e => (row_block ho e).elim fun cur h => lt_of_block h.1) hB ⟨a2, 0, none⟩ c2 ds hl (fun j u hu => by rw [Addr.add_lit, Nat.zero_add]; exact hds j u hu) h1 hr (by unfold maxLen; omega) (by omega)
    have h6 := h5 b rfl
    obtain ⟨g9, c9, e9⟩ : ∃ g9 c9, v' = .slice (some ⟨g9, 0, none⟩) (i + m) c9 := by
      obtain ⟨-, -, -, -, hv⟩ := h3
      rcases hv with ⟨g, -, e⟩ | ⟨g, c, -, e⟩
      · exact ⟨g, _, e⟩
      · exact ⟨g, c, e⟩
    obtain ⟨q, hq⟩ : ∃ q, q = i + m := ⟨_, rfl⟩
    rw [← hq] at e9
    subst e9
    have H2 := Lib.hid h2
    have H3 := Lib.hid h3
    have H4 := Lib.hid h4
    have H6 := Lib.hid h6
    have HRS := Lib.hid hR
    have HBB := Lib.hid hBr
    have HCM := Lib.hid hcm
    have HQ := Lib.hid hq
    have hqs : q ≤ 1000000 := by omega
    have hltn : i < n := by omega
    have hneq : ((i : Int) == (n : Int)) = false := by rw [beq_eq_false_iff_ne]; omega
    unfold maxLen at hcm
    clear ho hR hds h1 hr hl hBr h2 h3 h4 h5 h6 hin hi hA hq
    by_cases hqn : q < n
    · have hqc : q ≤ cap := by omega
      have e6 := H6.out (by rw [← HQ.out]; exact hqc)
      rw [← HQ.out] at e6
      injection e6 with e1 _ e3
      injection e1 with e1
      injection e1 with e1
      subst e1 e3
      obtain ⟨z1, z2⟩ := zero_cells (n - q)
      obtain ⟨L, hL⟩ : ∃ L, L = (Builtin.zeroCells (Value.agg #[.int .i64 0, .slice none 0 0]).cells (n - q)).toList := ⟨_, rfl⟩
      rw [← hL] at z1 z2
      have H3' := H3.out
      have hap := apm_clear HRS.out HQ.out H3' hqc HCM.out L
      obtain ⟨news, -, hown, -⟩ := H3.out
      have hcell : ∃ cur : Array Value, w'.heap[g9]? = some (.cells cur 36 (0, 0)) ∧ cur.size = c9 * 2 := by
        rcases hown.2 with ⟨e, -⟩ | ⟨g, c, cur, e, -, hg, -, -, hs, -⟩
        · cases e
        · injection e with e1 _ e3
          injection e1 with e1
          injection e1 with e1
          subst e1 e3
          exact ⟨cur, hg, hs⟩
      obtain ⟨cur, hcur, hcs⟩ := hcell
      have HCL := Lib.hid (run_clear_rows (P := Try.prog) w' 27 36 0 (.agg #[.int .i64 0, .slice none 0 0]) Try.underlying27 zero_item g9 (q * 2) (n - q) (c9 - q) (by omega) L hL.symm z2
        (fun j hj => by rw [cell_of_row _ _ _ _ _ _ hcur, Array.getElem?_eq_getElem (by omega)]; rfl) (fun j hj => frozen_of_row w' g9 _ _ _ hcur))
      have HAP := Lib.hid hap
      have HF3 := Lib.hid (ApdM.stable HRS.out HBB.out _ _ _ H3.out hap)
      clear H3' hap hown hcur hcs z1 z2 hL
      go_enter Try.func41, Try.ntmps41
      go_upto_region 5 with fail
      go_wp2_with (at_builtin; refine stop ?_)
      unfold Stop
      refine wpList_append_run (o := ⟨some 34, _, _, _, _, _⟩) rfl _ _ 27 rfl _ _ _ _ rfl rfl H2.out ?_
      go_upto_region 7 with fail
      go_step
      iterate 12 go_step
      refine wpList_clear_run (o := ⟨none, _, _, _, _, _⟩) rfl _ 27 rfl _ _ _ rfl HCL.out ?_
      go_wp2
      go_ret
      exact ⟨_, rfl, HF3.out, ApM.trans HRS.out _ _ _ H4.out HAP.out⟩
    · clear H6
      go_enter Try.func41, Try.ntmps41
      go_upto_region 5 with fail
      go_wp2_with (at_builtin; refine stop ?_)
      unfold Stop
      refine wpList_append_run (o := ⟨some 34, _, _, _, _, _⟩) rfl _ _ 27 rfl _ _ _ _ rfl rfl H2.out ?_
      go_wp2
      go_ret
      exact ⟨_, rfl, H3.out, H4.out⟩
end

end
end Go.Proofs.Ytgjplbanfnomkaa
