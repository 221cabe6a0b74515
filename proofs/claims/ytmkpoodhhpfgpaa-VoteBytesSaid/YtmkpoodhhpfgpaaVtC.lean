/- The small calls of the layer: who is enough, which log is as new, a term's ballot. -/
import Derived.Test.YtmkpoodhhpfgpaaByt
import Derived.Test.YtmkpoodhhpfgpaaTxBase
import Derived.Deep.WholeRow
import Derived.Lib.Hide
set_option linter.unusedVariables false
set_option linter.unusedSimpArgs false
namespace Go.Proofs.Ytmkpoodhhpfgpaa
open Go.RowKit
def enN (n : Int) : Nat := if n < 1 ∨ 7 < n then 0 else n.toNat / 2 + 1
set_option maxRecDepth 100000 in
theorem enough_any (n : Int) (w : World) : Calls Try.prog 12 #[.int .i64 n] w fun r w' => r = .returned (.int .i64 (enN n : Int)) ∧ w' = w := by
  by_cases h1 : n < 1
  · have e : enN n = 0 := by unfold enN; rw [if_pos (.inl h1)]
    have d1 := decide_eq_true h1
    rw [e]
    clear e h1
    go_enter Try.func12, Try.ntmps12
    go_wp2
    go_ret
    exact ⟨rfl, rfl⟩
  by_cases h2 : 7 < n
  · have e : enN n = 0 := by unfold enN; rw [if_pos (.inr h2)]
    have d1 := decide_eq_false h1
    have d2 := decide_eq_true h2
    rw [e]
    clear e h1 h2
    go_enter Try.func12, Try.ntmps12
    go_wp2
    go_ret
    exact ⟨rfl, rfl⟩
  have h : n = 1 ∨ n = 2 ∨ n = 3 ∨ n = 4 ∨ n = 5 ∨ n = 6 ∨ n = 7 := by omega
  clear h1 h2
  rcases h with rfl | rfl | rfl | rfl | rfl | rfl | rfl
  all_goals
    go_enter Try.func12, Try.ntmps12
    go_wp2
    go_ret
    exact ⟨rfl, rfl⟩
set_option maxRecDepth 100000 in
theorem renough_any (n : Int) (w : World) : Calls Try.prog 13 #[.int .i64 n] w fun r w' => r = .returned (.int .i64 (enN n : Int)) ∧ w' = w := by
  by_cases h1 : n < 1
  · have e : enN n = 0 := by unfold enN; rw [if_pos (.inl h1)]
    have d1 := decide_eq_true h1
    rw [e]
    clear e h1
    go_enter Try.func13, Try.ntmps13
    go_wp2
    go_ret
    exact ⟨rfl, rfl⟩
  by_cases h2 : 7 < n
  · have e : enN n = 0 := by unfold enN; rw [if_pos (.inr h2)]
    have d1 := decide_eq_false h1
    have d2 := decide_eq_true h2
    rw [e]
    clear e h1 h2
    go_enter Try.func13, Try.ntmps13
    go_wp2
    go_ret
    exact ⟨rfl, rfl⟩
  obtain ⟨m, rfl⟩ : ∃ m : Nat, n = (m : Int) := ⟨n.toNat, by omega⟩
  have e : enN (m : Int) = m / 2 + 1 := by unfold enN; rw [if_neg (by omega)]; simp
  rw [e]
  have d1 := decide_eq_false h1
  have d2 := decide_eq_false h2
  have h7 : m ≤ 7 := by omega
  clear e h1 h2
  go_enter Try.func13, Try.ntmps13
  go_wp2
  go_loopw [3] (fun k wr => ∃ j : Nat, j ≤ m / 2 + 1 ∧ k = .int .i64 (j : Int) ∧ wr = w) (fun k _ => 10 - (intOf k).toNat)
  case atStart => exact ⟨0, Nat.zero_le _, rfl, rfl⟩
  case round =>
    obtain ⟨j, hj, rfl, rfl⟩ := hrel
    by_cases hlt : j < m / 2 + 1
    · have q : decide ((j : Int) + (j : Int) ≤ (m : Int)) = true := decide_eq_true (by omega)
      go_wp2
      go_roundw
      case rel => exact ⟨j + 1, by omega, by simp, trivial⟩
      case measure => simp [intOf]; omega
    · obtain rfl : j = m / 2 + 1 := by omega
      have q : decide (((m / 2 + 1 : Nat) : Int) + ((m / 2 + 1 : Nat) : Int) ≤ (m : Int)) = false := decide_eq_false (by omega)
      go_wp2
      go_ret
      exact ⟨rfl, rfl⟩
def asN (a at' b bt : Int) : Bool := if at' = bt then decide (b ≤ a) else decide (bt < at')
set_option maxRecDepth 100000 in
theorem asnew_any (a at' b bt : Int) (w : World) : Calls Try.prog 14 #[.int .i64 a, .int .i64 at', .int .i64 b, .int .i64 bt] w fun r w' => r = .returned (.bool (asN a at' b bt)) ∧ w' = w := by
  unfold asN
  by_cases h : at' = bt
  · subst h
    rw [if_pos rfl]
    go_enter Try.func14, Try.ntmps14
    go_wp2
    go_ret
    exact ⟨rfl, rfl⟩
  · rw [if_neg h]
    have d := decide_eq_false h
    have d2 : (at' == bt) = false := by simpa using h
    go_enter Try.func14, Try.ntmps14
    go_wp2
    go_ret
    exact ⟨rfl, rfl⟩
set_option maxRecDepth 100000 in
theorem rasnew_any (a at' b bt : Int) (w : World) : Calls Try.prog 15 #[.int .i64 a, .int .i64 at', .int .i64 b, .int .i64 bt] w fun r w' => r = .returned (.bool (asN a at' b bt)) ∧ w' = w := by
  unfold asN
  by_cases h : at' = bt
  · subst h
    rw [if_pos rfl]
    go_enter Try.func15, Try.ntmps15
    go_wp2
    go_ret
    exact ⟨rfl, rfl⟩
  · rw [if_neg h]
    have d := decide_eq_false h
    have d2 : (at' == bt) = false := by simpa using h
    go_enter Try.func15, Try.ntmps15
    go_wp2
    go_ret
    exact ⟨rfl, rfl⟩
/-- A ballot's value. -/
abbrev blC (t f : Int) : Array Value := #[.int .i64 t, .int .i64 f]
abbrev blV (t f : Int) : Value := .agg (blC t f)
theorem bl_info : (Try.prog.info? 23).map (·.size) = some 2 := by kernel_rfl
/-- A ballot's block. -/
def BBx (w : World) (g : Nat) (t f : Int) : Prop := w.heap[g]? = some (.cells (blC t f) 23 (0, 0))
theorem BBx.cells {w : World} {g : Nat} {t f : Int} (h : BBx w g t f) : (w.cell? ⟨g, 0, none⟩ = some (.int .i64 t) ∧ w.cell? ⟨g, 1, none⟩ = some (.int .i64 f)) ∧ w.frozen? ⟨g, 0, none⟩ = false ∧ w.frozen? ⟨g, 1, none⟩ = false := by
  unfold BBx at h
  refine ⟨⟨?_, ?_⟩, ?_, ?_⟩
  all_goals first | exact frozen_of_row w g _ _ _ h | (rw [cell_of_row _ _ _ _ _ _ h]; rfl)
theorem BBx.turn {w w' : World} {g : Nat} {t f : Int} {T : Nat → Prop} (h : BBx w g t f) (k : Turn T w w') (hg : ¬ T g) : BBx w' g t f := k.heap h hg
theorem BBx.new (w : World) (t f : Int) : BBx (w.alloc (.cells (blC t f) 23)) w.heap.size t f := heap_alloc_new _ _
theorem BBx.set0 {w : World} {g : Nat} {t f : Int} (h : BBx w g t f) (x : Int) : BBx (w.setCell ⟨g, 0, none⟩ (.int .i64 x)) g x f := by
  unfold BBx at h ⊢
  rw [heap_setCell_same _ g 0 _ _ _ h]; rfl
theorem BBx.set1 {w : World} {g : Nat} {t f : Int} (h : BBx w g t f) (x : Int) : BBx (w.setCell ⟨g, 1, none⟩ (.int .i64 x)) g t x := by
  unfold BBx at h ⊢
  rw [heap_setCell_same _ g 1 _ _ _ h]; rfl
theorem results_bl {fn : Func} {p u : Tmp} (h : fn.results = #[.cell p 23, .tmp u]) (tmps : Array Value) (w : World) (g : Nat) (cs : Array Value) (v : Value)
    (hp : tmps.getD p undef = .pointer (some ⟨g, 0, none⟩)) (hv : tmps.getD u undef = v) (hg : w.heap[g]? = some (.cells cs 23 (0, 0))) (hc : cs.size = 2) :
    (results fn tmps).run Try.prog w = .ok (.tuple #[.agg cs, v]) w := by
  rw [results_cell_tmp h, hp, hv]
  simp [asAddr, run_loadVar_row w g 23 23 cs (0, 0) _ hg Try.underlying23 rfl (by rw [hc]; kernel_rfl), Result.andThen]
set_option maxRecDepth 100000 in
theorem free_any (t : Int) (w : World) : Calls Try.prog 26 #[.int .i64 t] w fun r w' => r = .returned (blV t (-1)) ∧ Turn (fun _ => False) w w' := by
  go_enter Try.func26, Try.ntmps26
  go_wp2
  refine bodyPost_ret (v := blV t (-1)) ?_ rfl ⟨rfl, (Turn.refl _ _).alloc _⟩
  exact results_cell_row Try.results26 _ _ w.heap.size _ (blC t (-1)) (0, 0) _ rfl (BBx.new w t (-1)) Try.underlying23 rfl bl_info
def stepT (t x : Int) : Int := if x ≤ t then t else x
def stepF (t f x : Int) : Int := if x ≤ t then f else -1
set_option maxRecDepth 100000 in
theorem step_any (t f x : Int) (w : World) : Calls Try.prog 11 #[blV t f, .int .i64 x] w fun r w' => r = .returned (blV (stepT t x) (stepF t f x)) ∧ Turn (fun _ => False) w w' := by
  unfold stepT stepF
  obtain ⟨w1, hw1⟩ : ∃ w1, w1 = (w.alloc (.cells (blC t f) 23)).alloc (.cells (blC 0 0) 23) := ⟨_, rfl⟩
  have t1 : Turn (fun _ => False) w w1 := by rw [hw1]; exact ((Turn.refl _ _).alloc _).alloc _
  have g1 : BBx w1 w.heap.size t f := by rw [hw1]; exact heap_alloc2_old _ _ _
  have g2 : BBx w1 (w.heap.size + 1) 0 0 := by rw [hw1]; exact heap_alloc2_new _ _ _
  obtain ⟨⟨c0, c1⟩, -⟩ := g1.cells
  obtain ⟨⟨d0, d1⟩, d2, d3⟩ := g2.cells
  have HT := Lib.hid t1
  have HG := Lib.hid g2
  clear t1 g1 g2
  by_cases h : x ≤ t
  · rw [if_pos h, if_pos h]
    have d := decide_eq_true h
    clear h
    go_enter Try.func11, Try.ntmps11
    go_upto_region 1 with fail
    change Code.wp _ _ _ _ ((w.alloc (.cells (blC t f) 23)).alloc (.cells (blC 0 0) 23))
    rw [← hw1]
    clear hw1
    go_wp2
    have h9 := (HG.out.set0 t).set1 f
    refine bodyPost_ret (v := blV t f) ?_ rfl ⟨rfl, HT.out.trans (((Turn.refl (fun i => i = w.heap.size + 1) w1).setCell _ _ (fun _ => rfl)).setCell _ _ (fun _ => rfl)) (fun i hi e => by have e : i = w.heap.size + 1 := e; omega)⟩
    exact results_cell_row Try.results11 _ _ (w.heap.size + 1) _ (blC t f) (0, 0) _ rfl h9 Try.underlying23 rfl bl_info
  · rw [if_neg h, if_neg h]
    have d := decide_eq_false h
    clear h
    have F := Lib.hid (free_any x w1)
    go_enter Try.func11, Try.ntmps11
    go_upto_region 1 with fail
    change Code.wp _ _ _ _ ((w.alloc (.cells (blC t f) 23)).alloc (.cells (blC 0 0) 23))
    rw [← hw1]
    clear hw1
    go_wp2_with (go_at_call 26; refine stop ?_)
    unfold Stop
    refine F.out.mono ?_
    rintro r w2 ⟨rfl, t2⟩
    have g2 := HG.out.turn t2 (fun h => h)
    have HT2 := Lib.hid (HT.out.trans t2 (fun _ _ h => h))
    have HG2 := Lib.hid g2
    clear c0 c1 d0 d1 d2 d3 t2
    obtain ⟨⟨d0, d1⟩, d2, d3⟩ := g2.cells
    clear g2
    go_wp2
    have h9 := (HG2.out.set0 x).set1 (-1)
    refine bodyPost_ret (v := blV x (-1)) ?_ rfl ⟨rfl, HT2.out.trans (((Turn.refl (fun i => i = w.heap.size + 1) w2).setCell _ _ (fun _ => rfl)).setCell _ _ (fun _ => rfl)) (fun i hi e => by have e : i = w.heap.size + 1 := e; omega)⟩
    exact results_cell_row Try.results11 _ _ (w.heap.size + 1) _ (blC x (-1)) (0, 0) _ rfl h9 Try.underlying23 rfl bl_info
end Go.Proofs.Ytmkpoodhhpfgpaa
