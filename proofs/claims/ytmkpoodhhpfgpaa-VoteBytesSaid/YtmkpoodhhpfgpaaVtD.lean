/- Whether a ballot is right; whether it votes. -/
import Derived.Test.YtmkpoodhhpfgpaaVtC
import Derived.Test.YtmkpoodhhpfgpaaRel
set_option linter.unusedVariables false
set_option linter.unusedSimpArgs false
namespace Go.Proofs.Ytmkpoodhhpfgpaa
open Go.RowKit
def btw (n a b : Int) : Int := min (max n a) b
set_option maxRecDepth 100000 in
theorem between_any (n a b : Int) (w : World) : Calls Try.prog 42 #[.int .i64 n, .int .i64 a, .int .i64 b] w fun r w' => r = .returned (.int .i64 (btw n a b)) ∧ w' = w := by
  go_enter Try.func42, Try.ntmps42
  go_wp2
  go_ret
  exact ⟨rfl, rfl⟩
def okB (t f : Int) : Bool := decide (0 ≤ t) && (decide (t ≤ 1099511627776) && (decide (-1 ≤ f) && decide (f ≤ 6)))
set_option maxRecDepth 100000 in
theorem rright_any (t f : Int) (w : World) : Calls Try.prog 20 #[blV t f] w fun r w' => r = .returned (.bool (okB t f)) ∧ Turn (fun _ => False) w w' := by
  have t1 : Turn (fun _ => False) w (w.alloc (.cells (blC t f) 23)) := (Turn.refl _ _).alloc _
  have HT := Lib.hid t1
  clear t1
  unfold okB
  generalize h1 : decide (0 ≤ t) = q1
  generalize h2 : decide (t ≤ 1099511627776) = q2
  generalize h3 : decide (-1 ≤ f) = q3
  generalize h4 : decide (f ≤ 6) = q4
  cases q1 <;> cases q2 <;> cases q3 <;> cases q4
  all_goals
    go_enter Try.func20, Try.ntmps20
    go_wp2
    go_ret
    exact ⟨rfl, HT.out⟩
set_option maxRecDepth 100000 in
set_option maxHeartbeats 2000000 in
theorem bounded_any (t f : Int) (w : World) : Calls Try.prog 31 #[blV t f] w fun r w' => r = .returned (blV (btw t 0 1099511627776) (btw f (-1) 6)) ∧ Turn (fun _ => False) w w' := by
  obtain ⟨w1, hw1⟩ : ∃ w1, w1 = (w.alloc (.cells (blC t f) 23)).alloc (.cells (blC 0 0) 23) := ⟨_, rfl⟩
  have t1 : Turn (fun _ => False) w w1 := by rw [hw1]; exact ((Turn.refl _ _).alloc _).alloc _
  have g1 : BBx w1 w.heap.size t f := by rw [hw1]; exact heap_alloc2_old _ _ _
  have g2 : BBx w1 (w.heap.size + 1) 0 0 := by rw [hw1]; exact heap_alloc2_new _ _ _
  obtain ⟨⟨c0, c1⟩, -⟩ := g1.cells
  obtain ⟨⟨d0, d1⟩, d2, d3⟩ := g2.cells
  have HT := Lib.hid t1
  have HG := Lib.hid g2
  have T := Lib.hid between_any
  clear t1 g1 g2
  go_enter Try.func31, Try.ntmps31
  go_upto_region 1 with fail
  change Code.wp _ _ _ _ ((w.alloc (.cells (blC t f) 23)).alloc (.cells (blC 0 0) 23))
  rw [← hw1]
  clear hw1
  go_region_with (go_at_call 42; refine (T.out _ _ _ _).mono ?_; rintro r w9 ⟨rfl, hw9⟩; rw [hw9]; clear hw9 w9)
  all_goals
    go_wp2
    have h9 : BBx w1.drew (w.heap.size + 1) 0 0 := HG.out
    have h9 := (h9.set0 (btw t 0 1099511627776)).set1 (btw f (-1) 6)
    refine bodyPost_ret (v := blV (btw t 0 1099511627776) (btw f (-1) 6)) ?_ rfl ⟨rfl, HT.out.trans ((((Turn.refl (fun i => i = w.heap.size + 1) w1).drew).setCell _ _ (fun _ => rfl)).setCell _ _ (fun _ => rfl)) (fun i hi e => by have e : i = w.heap.size + 1 := e; omega)⟩
    exact results_cell_row Try.results31 _ _ (w.heap.size + 1) _ (blC (btw t 0 1099511627776) (btw f (-1) 6)) (0, 0) _ rfl h9 Try.underlying23 rfl bl_info
theorem eqFields_cons {P : Program} {d : Nat} {xs ys : Array Value} {f : Field} {fs : List Field} {a b : Value} {r R : Bool} (hn : f.name ≠ "_") (ha : ∀ w, (part f.type xs f.offset).run P w = .ok a w) (hb : ∀ w, (part f.type ys f.offset).run P w = .ok b w)
    (hr : ∀ w, (Op.equalIn d f.type a b).run P w = .ok r w) (hR : ∀ w, (Op.eqFields d xs ys fs).run P w = .ok R w) (w : World) : (Op.eqFields d xs ys (f :: fs)).run P w = .ok (r && R) w := by
  rw [Op.eqFields, if_pos hn]
  simp only [Sem.run_bind, ha, hb, hr, Result.andThen_ok]
  cases r
  · simp
  · simp [hR]
theorem part_num (t : TypeId) (k : IntKind) (ht : Try.prog.underlying t = some (.int k)) (C : Array Value) (o : Nat) (v : Value) (h : C[o]? = some v) (w : World) : (part t C o).run Try.prog w = .ok v w := by
  simp [part, isAgg, run_underlying ht, h]
set_option maxRecDepth 100000 in
theorem eql_bl (t f t' f' : Int) (w : World) : (Op.equalIn 10000 23 (blV t f) (blV t' f')).run Try.prog w = .ok (decide (t = t' ∧ f = f')) w := by
  rw [run_equalIn_struct w 9999 23 _ _ (by kernel_rfl) (by kernel_rfl)]
  have hf : (Try.prog.fieldsOf 23).toList.map (fun f => (f.name, f.type, f.offset)) = [("Term", 3, 0), ("For", 3, 1)] := by kernel_rfl
  generalize (Try.prog.fieldsOf 23).toList = F at hf
  rcases F with _ | ⟨f0, _ | ⟨f1, _ | ⟨f2, F⟩⟩⟩ <;> try (simp at hf; done)
  · simp only [List.map_cons, List.cons.injEq, Prod.mk.injEq, List.map_nil, and_true] at hf
    obtain ⟨⟨a0, b0, c0⟩, ⟨a1, b1, c1⟩⟩ := hf
    have num : ∀ (t : TypeId) (k : IntKind) (ht : Try.prog.underlying t = some (.int k)) (i : Int) (j : Int) (w : World), (Op.equalIn 9999 t (.int k i) (.int k j)).run Try.prog w = .ok (i == j) w := fun t k ht i j w => run_equalIn_int (P := Try.prog) w 9998 t k k i j ht
    have G1 := eqFields_cons (P := Try.prog) (d := 9999) (xs := blC t f) (ys := blC t' f') (f := f1) (fs := []) (R := true) (by rw [a1]; decide) (by rw [b1, c1]; exact part_num _ .i64 Try.underlying3 _ _ _ rfl) (by rw [b1, c1]; exact part_num _ .i64 Try.underlying3 _ _ _ rfl) (by rw [b1]; exact num _ _ Try.underlying3 f f') (fun w => by rw [Op.eqFields]; rfl)
    have G0 := eqFields_cons (P := Try.prog) (d := 9999) (xs := blC t f) (ys := blC t' f') (f := f0) (by rw [a0]; decide) (by rw [b0, c0]; exact part_num _ .i64 Try.underlying3 _ _ _ rfl) (by rw [b0, c0]; exact part_num _ .i64 Try.underlying3 _ _ _ rfl) (by rw [b0]; exact num _ _ Try.underlying3 t t') G1
    rw [G0]
    congr 1
    rw [Bool.eq_iff_iff]
    simp
theorem okB_btw (t f : Int) : decide (t = btw t 0 1099511627776 ∧ f = btw f (-1) 6) = okB t f := by
  rw [Bool.eq_iff_iff]
  unfold okB btw
  simp only [Bool.and_eq_true, decide_eq_true_eq]
  omega
set_option maxRecDepth 100000 in
set_option maxHeartbeats 2000000 in
theorem right_any (t f : Int) (w : World) : Calls Try.prog 21 #[blV t f] w fun r w' => r = .returned (.bool (okB t f)) ∧ Turn (fun _ => False) w w' := by
  obtain ⟨w1, hw1⟩ : ∃ w1, w1 = w.alloc (.cells (blC t f) 23) := ⟨_, rfl⟩
  have t1 : Turn (fun _ => False) w w1 := by rw [hw1]; exact (Turn.refl _ _).alloc _
  have g1 : BBx w1 w.heap.size t f := by rw [hw1]; exact BBx.new _ _ _
  obtain ⟨⟨c0, c1⟩, -⟩ := g1.cells
  have HT := Lib.hid t1
  have HG := Lib.hid g1
  have T := Lib.hid (bounded_any t f)
  have Q := eql_bl t f (btw t 0 1099511627776) (btw f (-1) 6)
  rw [okB_btw] at Q
  generalize okB t f = q at *
  generalize btw t 0 1099511627776 = t' at *
  generalize btw f (-1) 6 = f' at *
  clear t1 g1
  go_enter Try.func21, Try.ntmps21
  go_upto_region 1 with fail
  change Code.wp _ _ _ _ (w.alloc (.cells (blC t f) 23))
  rw [← hw1]
  clear hw1
  go_region_with (go_at_call 31; refine (T.out _).mono ?_; rintro r w9 ⟨rfl, t9⟩; obtain ⟨⟨a0, a1⟩, -⟩ := (show BBx w9 w.heap.size t f from HG.out.turn ((Turn.refl (fun _ => False) w1).drew.trans t9 (fun _ _ h => h)) (fun h => h)).cells; have T9 := Lib.hid t9; clear t9)
  all_goals
    go_wp2
    go_ret
    refine ⟨?_, HT.out.trans ((Turn.refl _ _).drew.trans T9.out (fun _ _ h => h)) (fun _ _ h => h)⟩
    simp [Act.put]
end Go.Proofs.Ytmkpoodhhpfgpaa
