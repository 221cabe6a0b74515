/- Whether a ballot votes, as the code and as the document tell it; 'awake'. -/
import Derived.Test.YtmkpoodhhpfgpaaVtD
set_option linter.unusedVariables false
set_option linter.unusedSimpArgs false
namespace Go.Proofs.Ytmkpoodhhpfgpaa
open Go.RowKit
def grB (t f from' x : Int) (n : Bool) : Bool := decide (0 ≤ from') && (decide (from' ≤ 6) && (n && (decide (t = x) && (decide (f = -1) || decide (f = from')))))
def grT (t f from' x : Int) (n : Bool) : Int := if grB t f from' x n = true then x else t
def grF (t f from' x : Int) (n : Bool) : Int := if grB t f from' x n = true then from' else f
def GPost (t f from' x : Int) (n : Bool) (w : World) (r : Ending) (w' : World) : Prop := r = .returned (.tuple #[blV (grT t f from' x n) (grF t f from' x n), .bool (grB t f from' x n)]) ∧ Turn (fun _ => False) w w'
theorem gr_no {t f from' x : Int} {n : Bool} (h : grB t f from' x n = false) : grT t f from' x n = t ∧ grF t f from' x n = f := by unfold grT grF; rw [h]; exact ⟨rfl, rfl⟩
theorem gr_yes {t f from' x : Int} {n : Bool} (h : grB t f from' x n = true) : grT t f from' x n = x ∧ grF t f from' x n = from' := by unfold grT grF; rw [h]; exact ⟨rfl, rfl⟩
theorem BBx.set {w : World} {g : Nat} {t f : Int} (h : BBx w g t f) (x y : Int) : BBx ((w.setCell ⟨g, 0, none⟩ (.int .i64 x)).setCell ⟨g, 1, none⟩ (.int .i64 y)) g x y ∧ Turn (fun i => i = g) w ((w.setCell ⟨g, 0, none⟩ (.int .i64 x)).setCell ⟨g, 1, none⟩ (.int .i64 y)) :=
  ⟨(h.set0 x).set1 y, ((Turn.refl (fun i => i = g) w).setCell _ _ (fun _ => rfl)).setCell _ _ (fun _ => rfl)⟩
set_option maxRecDepth 100000 in
set_option maxHeartbeats 4000000 in
theorem rgrant_any (t f from' x : Int) (n : Bool) (w : World) :
    Calls Try.prog 10 #[blV t f, .int .i64 from', .int .i64 x, .bool n] w (GPost t f from' x n w) := by
  obtain ⟨w1, hw1⟩ : ∃ w1, w1 = (w.alloc (.cells (blC t f) 23)).alloc (.cells (blC 0 0) 23) := ⟨_, rfl⟩
  have t1 : Turn (fun _ => False) w w1 := by rw [hw1]; exact ((Turn.refl _ _).alloc _).alloc _
  have g1 : BBx w1 w.heap.size t f := by rw [hw1]; exact heap_alloc2_old _ _ _
  have g2 : BBx w1 (w.heap.size + 1) 0 0 := by rw [hw1]; exact heap_alloc2_new _ _ _
  have HT := Lib.hid t1
  have HG1 := Lib.hid g1
  have HG := Lib.hid g2
  obtain ⟨⟨c0, c1⟩, -⟩ := g1.cells
  obtain ⟨⟨d0, d1⟩, d2, d3⟩ := g2.cells
  clear t1 g1 g2
  unfold GPost
  by_cases h0 : from' < 0
  · have hb : grB t f from' x n = false := by rw [← Bool.not_eq_true]; unfold grB; simp only [Bool.and_eq_true, Bool.or_eq_true, decide_eq_true_eq]; omega
    have HB := Lib.hid (And.intro hb (gr_no hb))
    clear hb
    have q0 := decide_eq_true h0
    clear h0
    go_enter Try.func10, Try.ntmps10
    go_upto_region 1 with fail
    change Code.wp _ _ _ _ ((w.alloc (.cells (blC t f) 23)).alloc (.cells (blC 0 0) 23))
    rw [← hw1]
    clear hw1
    go_wp2
    have h9 := HG.out.set t f
    refine bodyPost_ret (v := .tuple #[blV t f, .bool false]) ?_ rfl ⟨by rw [HB.out.1, HB.out.2.1, HB.out.2.2], HT.out.trans h9.2 (fun i hi e => by have e : i = w.heap.size + 1 := e; omega)⟩
    exact results_bl Try.results10 _ _ (w.heap.size + 1) _ _ rfl rfl h9.1 rfl
  have q0 := decide_eq_false h0
  by_cases h1 : 6 < from'
  · have hb : grB t f from' x n = false := by rw [← Bool.not_eq_true]; unfold grB; simp only [Bool.and_eq_true, Bool.or_eq_true, decide_eq_true_eq]; omega
    have HB := Lib.hid (And.intro hb (gr_no hb))
    clear hb
    have q1 := decide_eq_true h1
    clear h0 h1
    go_enter Try.func10, Try.ntmps10
    go_upto_region 1 with fail
    change Code.wp _ _ _ _ ((w.alloc (.cells (blC t f) 23)).alloc (.cells (blC 0 0) 23))
    rw [← hw1]
    clear hw1
    go_wp2
    have h9 := HG.out.set t f
    refine bodyPost_ret (v := .tuple #[blV t f, .bool false]) ?_ rfl ⟨by rw [HB.out.1, HB.out.2.1, HB.out.2.2], HT.out.trans h9.2 (fun i hi e => by have e : i = w.heap.size + 1 := e; omega)⟩
    exact results_bl Try.results10 _ _ (w.heap.size + 1) _ _ rfl rfl h9.1 rfl
  have q1 := decide_eq_false h1
  cases n with
  | false =>
    have hb : grB t f from' x false = false := by rw [← Bool.not_eq_true]; unfold grB; simp only [Bool.and_eq_true, Bool.or_eq_true, decide_eq_true_eq]; simp
    have HB := Lib.hid (And.intro hb (gr_no hb))
    clear hb
    clear h0 h1
    go_enter Try.func10, Try.ntmps10
    go_upto_region 1 with fail
    change Code.wp _ _ _ _ ((w.alloc (.cells (blC t f) 23)).alloc (.cells (blC 0 0) 23))
    rw [← hw1]
    clear hw1
    go_wp2
    have h9 := HG.out.set t f
    refine bodyPost_ret (v := .tuple #[blV t f, .bool false]) ?_ rfl ⟨by rw [HB.out.1, HB.out.2.1, HB.out.2.2], HT.out.trans h9.2 (fun i hi e => by have e : i = w.heap.size + 1 := e; omega)⟩
    exact results_bl Try.results10 _ _ (w.heap.size + 1) _ _ rfl rfl h9.1 rfl
  | true =>
  by_cases h2 : t = x
  · subst h2
    by_cases h3 : f = -1
    · subst h3
      have hb : grB t (-1) from' t true = true := by unfold grB; simp only [Bool.and_eq_true, Bool.or_eq_true, decide_eq_true_eq]; refine ⟨by omega, by omega, ?_⟩; simp
      have HB := Lib.hid (And.intro hb (gr_yes hb))
      clear hb
      clear h0 h1
      go_enter Try.func10, Try.ntmps10
      go_upto_region 1 with fail
      change Code.wp _ _ _ _ ((w.alloc (.cells (blC t (-1)) 23)).alloc (.cells (blC 0 0) 23))
      rw [← hw1]
      clear hw1
      go_wp2
      have h9 := HG.out.set t from'
      refine bodyPost_ret (v := .tuple #[blV t from', .bool true]) ?_ rfl ⟨by rw [HB.out.1, HB.out.2.1, HB.out.2.2], HT.out.trans h9.2 (fun i hi e => by have e : i = w.heap.size + 1 := e; omega)⟩
      exact results_bl Try.results10 _ _ (w.heap.size + 1) _ _ rfl rfl h9.1 rfl
    have q3 : (f == -1) = false := by simpa using h3
    have q3' : (f != -1) = true := by simpa using h3
    by_cases h4 : f = from'
    · subst h4
      have hb : grB t f f t true = true := by unfold grB; simp only [Bool.and_eq_true, Bool.or_eq_true, decide_eq_true_eq]; refine ⟨by omega, by omega, ?_⟩; simp
      have HB := Lib.hid (And.intro hb (gr_yes hb))
      clear hb
      clear h0 h1 h3
      go_enter Try.func10, Try.ntmps10
      go_upto_region 1 with fail
      change Code.wp _ _ _ _ ((w.alloc (.cells (blC t f) 23)).alloc (.cells (blC 0 0) 23))
      rw [← hw1]
      clear hw1
      go_wp2
      have h9 := HG.out.set t f
      refine bodyPost_ret (v := .tuple #[blV t f, .bool true]) ?_ rfl ⟨by rw [HB.out.1, HB.out.2.1, HB.out.2.2], HT.out.trans h9.2 (fun i hi e => by have e : i = w.heap.size + 1 := e; omega)⟩
      exact results_bl Try.results10 _ _ (w.heap.size + 1) _ _ rfl rfl h9.1 rfl
    have q4 : (f == from') = false := by simpa using h4
    have q4' : (f != from') = true := by simpa using h4
    have hb : grB t f from' t true = false := by rw [← Bool.not_eq_true]; unfold grB; simp only [Bool.and_eq_true, Bool.or_eq_true, decide_eq_true_eq]; first | omega | (simp; done) | (simp; omega) | (simp [h2]; done)
    have HB := Lib.hid (And.intro hb (gr_no hb))
    clear hb
    clear h0 h1 h3 h4
    go_enter Try.func10, Try.ntmps10
    go_upto_region 1 with fail
    change Code.wp _ _ _ _ ((w.alloc (.cells (blC t f) 23)).alloc (.cells (blC 0 0) 23))
    rw [← hw1]
    clear hw1
    go_wp2
    have h9 := HG.out.set t f
    refine bodyPost_ret (v := .tuple #[blV t f, .bool false]) ?_ rfl ⟨by rw [HB.out.1, HB.out.2.1, HB.out.2.2], HT.out.trans h9.2 (fun i hi e => by have e : i = w.heap.size + 1 := e; omega)⟩
    exact results_bl Try.results10 _ _ (w.heap.size + 1) _ _ rfl rfl h9.1 rfl
  have q2 : (t == x) = false := by simpa using h2
  have q2' : (t != x) = true := by simpa using h2
  have hb : grB t f from' x true = false := by rw [← Bool.not_eq_true]; unfold grB; simp only [Bool.and_eq_true, Bool.or_eq_true, decide_eq_true_eq]; first | omega | (simp; done) | (simp; omega) | (simp [h2]; done)
  have HB := Lib.hid (And.intro hb (gr_no hb))
  clear hb
  clear h0 h1 h2
  go_enter Try.func10, Try.ntmps10
  go_upto_region 1 with fail
  change Code.wp _ _ _ _ ((w.alloc (.cells (blC t f) 23)).alloc (.cells (blC 0 0) 23))
  rw [← hw1]
  clear hw1
  go_wp2
  have h9 := HG.out.set t f
  refine bodyPost_ret (v := .tuple #[blV t f, .bool false]) ?_ rfl ⟨by rw [HB.out.1, HB.out.2.1, HB.out.2.2], HT.out.trans h9.2 (fun i hi e => by have e : i = w.heap.size + 1 := e; omega)⟩
  exact results_bl Try.results10 _ _ (w.heap.size + 1) _ _ rfl rfl h9.1 rfl
set_option maxRecDepth 100000 in
set_option maxHeartbeats 8000000 in
theorem grant_any (t f from' x : Int) (n : Bool) (w : World) :
    Calls Try.prog 9 #[blV t f, .int .i64 from', .int .i64 x, .bool n] w (GPost t f from' x n w) := by
  obtain ⟨w1, hw1⟩ : ∃ w1, w1 = (w.alloc (.cells (blC t f) 23)).alloc (.cells (blC 0 0) 23) := ⟨_, rfl⟩
  have t1 : Turn (fun _ => False) w w1 := by rw [hw1]; exact ((Turn.refl _ _).alloc _).alloc _
  have g1 : BBx w1 w.heap.size t f := by rw [hw1]; exact heap_alloc2_old _ _ _
  have g2 : BBx w1 (w.heap.size + 1) 0 0 := by rw [hw1]; exact heap_alloc2_new _ _ _
  have HT := Lib.hid t1
  have HG1 := Lib.hid g1
  have HG := Lib.hid g2
  obtain ⟨⟨c0, c1⟩, -⟩ := g1.cells
  obtain ⟨⟨d0, d1⟩, d2, d3⟩ := g2.cells
  clear t1 g1 g2
  unfold GPost
  by_cases h0 : from' < 0
  · have hb : grB t f from' x n = false := by rw [← Bool.not_eq_true]; unfold grB; simp only [Bool.and_eq_true, Bool.or_eq_true, decide_eq_true_eq]; omega
    have HB := Lib.hid (And.intro hb (gr_no hb))
    clear hb
    have q0 := decide_eq_true h0
    clear h0
    go_enter Try.func9, Try.ntmps9
    go_upto_region 1 with fail
    change Code.wp _ _ _ _ ((w.alloc (.cells (blC t f) 23)).alloc (.cells (blC 0 0) 23))
    rw [← hw1]
    clear hw1
    go_wp2
    have h9 := HG.out.set t f
    refine bodyPost_ret (v := .tuple #[blV t f, .bool false]) ?_ rfl ⟨by rw [HB.out.1, HB.out.2.1, HB.out.2.2], HT.out.trans h9.2 (fun i hi e => by have e : i = w.heap.size + 1 := e; omega)⟩
    exact results_bl Try.results9 _ _ (w.heap.size + 1) _ _ rfl rfl h9.1 rfl
  have q0 := decide_eq_false h0
  by_cases h1 : 6 < from'
  · have hb : grB t f from' x n = false := by rw [← Bool.not_eq_true]; unfold grB; simp only [Bool.and_eq_true, Bool.or_eq_true, decide_eq_true_eq]; omega
    have HB := Lib.hid (And.intro hb (gr_no hb))
    clear hb
    have q1 := decide_eq_true h1
    clear h0 h1
    go_enter Try.func9, Try.ntmps9
    go_upto_region 1 with fail
    change Code.wp _ _ _ _ ((w.alloc (.cells (blC t f) 23)).alloc (.cells (blC 0 0) 23))
    rw [← hw1]
    clear hw1
    go_wp2
    have h9 := HG.out.set t f
    refine bodyPost_ret (v := .tuple #[blV t f, .bool false]) ?_ rfl ⟨by rw [HB.out.1, HB.out.2.1, HB.out.2.2], HT.out.trans h9.2 (fun i hi e => by have e : i = w.heap.size + 1 := e; omega)⟩
    exact results_bl Try.results9 _ _ (w.heap.size + 1) _ _ rfl rfl h9.1 rfl
  have q1 := decide_eq_false h1
  cases n with
  | false =>
    have hb : grB t f from' x false = false := by rw [← Bool.not_eq_true]; unfold grB; simp only [Bool.and_eq_true, Bool.or_eq_true, decide_eq_true_eq]; simp
    have HB := Lib.hid (And.intro hb (gr_no hb))
    clear hb
    clear h0 h1
    go_enter Try.func9, Try.ntmps9
    go_upto_region 1 with fail
    change Code.wp _ _ _ _ ((w.alloc (.cells (blC t f) 23)).alloc (.cells (blC 0 0) 23))
    rw [← hw1]
    clear hw1
    go_wp2
    have h9 := HG.out.set t f
    refine bodyPost_ret (v := .tuple #[blV t f, .bool false]) ?_ rfl ⟨by rw [HB.out.1, HB.out.2.1, HB.out.2.2], HT.out.trans h9.2 (fun i hi e => by have e : i = w.heap.size + 1 := e; omega)⟩
    exact results_bl Try.results9 _ _ (w.heap.size + 1) _ _ rfl rfl h9.1 rfl
  | true =>
  have Q1 := eql_bl t f x from'
  have Q2 := eql_bl t f x (-1)
  have FR := Lib.hid (free_any x)
  by_cases h2 : t = x ∧ f = from'
  · rw [decide_eq_true h2] at Q1
    have hb : grB t f from' x true = true := by unfold grB; simp only [Bool.and_eq_true, Bool.or_eq_true, decide_eq_true_eq]; refine ⟨by omega, by omega, ?_⟩; simp [h2.1, h2.2]
    have HB := Lib.hid (And.intro hb (gr_yes hb))
    clear hb
    clear h0 h1 h2
    go_enter Try.func9, Try.ntmps9
    go_upto_region 1 with fail
    change Code.wp _ _ _ _ ((w.alloc (.cells (blC t f) 23)).alloc (.cells (blC 0 0) 23))
    rw [← hw1]
    clear hw1
    go_upto_region 4 with fail
    obtain ⟨w2, hw2⟩ : ∃ w2, w2 = w1.alloc (.cells (blC x from') 23) := ⟨_, rfl⟩
    have t2 : Turn (fun _ => False) w1 w2 := by rw [hw2]; exact (Turn.refl _ _).alloc _
    have g3 : BBx w2 w1.heap.size x from' := by rw [hw2]; exact BBx.new _ _ _
    have HGx := Lib.hid g3
    have HG2 := Lib.hid (HG.out.turn t2 (fun h => h))
    have HG3 := Lib.hid (HG1.out.turn t2 (fun h => h))
    have HT2 := Lib.hid (HT.out.trans t2 (fun _ _ h => h))
    change Code.wp _ _ _ _ (w1.alloc (.cells (blC x from') 23))
    rw [← hw2]
    clear hw2 t2 c0 c1 d0 d1 d2 d3
    generalize w1.heap.size = p at *
    obtain ⟨⟨e0, e1⟩, -⟩ := g3.cells
    obtain ⟨⟨c0, c1⟩, -⟩ := HG3.out.cells
    clear g3
    go_quiet (fail)
    generalize hw4 : w2.drewN _ = w4
    have t4 : Turn (fun _ => False) w2 w4 := by rw [← hw4]; exact (Turn.refl _ _).drewN _
    clear hw4 e0 e1 c0 c1
    have HG4 := Lib.hid (HG2.out.turn t4 (fun h => h))
    have HT4 := Lib.hid (HT2.out.trans t4 (fun _ _ h => h))
    have f3 := (HGx.out.turn t4 (fun h => h)).cells
    have f4 := (HG3.out.turn t4 (fun h => h)).cells
    obtain ⟨⟨a0, a1⟩, -⟩ := f3
    obtain ⟨⟨b0, b1⟩, -⟩ := f4
    obtain ⟨⟨d0, d1⟩, d2, d3⟩ := HG4.out.cells
    clear t4
    go_wp2
    have h9 := HG4.out.set x from'
    refine bodyPost_ret (v := .tuple #[blV x from', .bool true]) ?_ rfl ⟨by rw [HB.out.1, HB.out.2.1, HB.out.2.2], HT4.out.trans h9.2 (fun i hi e => by have e : i = w.heap.size + 1 := e; omega)⟩
    exact results_bl Try.results9 _ _ (w.heap.size + 1) _ _ rfl rfl h9.1 rfl
  rw [decide_eq_false h2] at Q1
  by_cases h3 : t = x ∧ f = -1
  · rw [decide_eq_true h3] at Q2
    have hb : grB t f from' x true = true := by unfold grB; simp only [Bool.and_eq_true, Bool.or_eq_true, decide_eq_true_eq]; refine ⟨by omega, by omega, ?_⟩; simp [h3.1, h3.2]
    have HB := Lib.hid (And.intro hb (gr_yes hb))
    clear hb
    clear h0 h1 h2 h3
    go_enter Try.func9, Try.ntmps9
    go_upto_region 1 with fail
    change Code.wp _ _ _ _ ((w.alloc (.cells (blC t f) 23)).alloc (.cells (blC 0 0) 23))
    rw [← hw1]
    clear hw1
    go_upto_region 4 with fail
    obtain ⟨w2, hw2⟩ : ∃ w2, w2 = w1.alloc (.cells (blC x from') 23) := ⟨_, rfl⟩
    have t2 : Turn (fun _ => False) w1 w2 := by rw [hw2]; exact (Turn.refl _ _).alloc _
    have g3 : BBx w2 w1.heap.size x from' := by rw [hw2]; exact BBx.new _ _ _
    have HGx := Lib.hid g3
    have HG2 := Lib.hid (HG.out.turn t2 (fun h => h))
    have HG3 := Lib.hid (HG1.out.turn t2 (fun h => h))
    have HT2 := Lib.hid (HT.out.trans t2 (fun _ _ h => h))
    change Code.wp _ _ _ _ (w1.alloc (.cells (blC x from') 23))
    rw [← hw2]
    clear hw2 t2 c0 c1 d0 d1 d2 d3
    generalize w1.heap.size = p at *
    obtain ⟨⟨e0, e1⟩, -⟩ := g3.cells
    obtain ⟨⟨c0, c1⟩, -⟩ := HG3.out.cells
    clear g3
    go_region_with (go_at_call 26; refine (FR.out _).mono ?_; rintro r w9 ⟨rfl, t9⟩; have T9 := Lib.hid t9; obtain ⟨⟨x0, x1⟩, -⟩ := (show BBx w9 w.heap.size t f from HG3.out.turn ((Turn.refl (fun _ => False) w2).drew.trans t9 (fun _ _ h => h)) (fun h => h)).cells; obtain ⟨⟨y0, y1⟩, -⟩ := (show BBx w9 p x from' from HGx.out.turn ((Turn.refl (fun _ => False) w2).drew.trans t9 (fun _ _ h => h)) (fun h => h)).cells; clear t9)
    all_goals
      have t4 : Turn (fun _ => False) w2 w9 := (Turn.refl (fun _ => False) w2).drew.trans T9.out (fun _ _ h => h)
      clear e0 e1 c0 c1 x0 x1 y0 y1
      have HG4 := Lib.hid (HG2.out.turn t4 (fun h => h))
      have HT4 := Lib.hid (HT2.out.trans t4 (fun _ _ h => h))
      have f3 := (HGx.out.turn t4 (fun h => h)).cells
      have f4 := (HG3.out.turn t4 (fun h => h)).cells
      obtain ⟨⟨a0, a1⟩, -⟩ := f3
      obtain ⟨⟨b0, b1⟩, -⟩ := f4
      obtain ⟨⟨d0, d1⟩, d2, d3⟩ := HG4.out.cells
      clear t4
      go_wp2
      have h9 := HG4.out.set x from'
      refine bodyPost_ret (v := .tuple #[blV x from', .bool true]) ?_ rfl ⟨by rw [HB.out.1, HB.out.2.1, HB.out.2.2], HT4.out.trans h9.2 (fun i hi e => by have e : i = w.heap.size + 1 := e; omega)⟩
      exact results_bl Try.results9 _ _ (w.heap.size + 1) _ _ rfl rfl h9.1 rfl
  rw [decide_eq_false h3] at Q2
  have hb : grB t f from' x true = false := by rw [← Bool.not_eq_true]; unfold grB; simp only [Bool.and_eq_true, Bool.or_eq_true, decide_eq_true_eq]; omega
  have HB := Lib.hid (And.intro hb (gr_no hb))
  clear hb
  clear h0 h1 h2 h3
  go_enter Try.func9, Try.ntmps9
  go_upto_region 1 with fail
  change Code.wp _ _ _ _ ((w.alloc (.cells (blC t f) 23)).alloc (.cells (blC 0 0) 23))
  rw [← hw1]
  clear hw1
  go_upto_region 4 with fail
  obtain ⟨w2, hw2⟩ : ∃ w2, w2 = w1.alloc (.cells (blC x from') 23) := ⟨_, rfl⟩
  have t2 : Turn (fun _ => False) w1 w2 := by rw [hw2]; exact (Turn.refl _ _).alloc _
  have g3 : BBx w2 w1.heap.size x from' := by rw [hw2]; exact BBx.new _ _ _
  have HGx := Lib.hid g3
  have HG2 := Lib.hid (HG.out.turn t2 (fun h => h))
  have HG3 := Lib.hid (HG1.out.turn t2 (fun h => h))
  have HT2 := Lib.hid (HT.out.trans t2 (fun _ _ h => h))
  change Code.wp _ _ _ _ (w1.alloc (.cells (blC x from') 23))
  rw [← hw2]
  clear hw2 t2 c0 c1 d0 d1 d2 d3
  generalize w1.heap.size = p at *
  obtain ⟨⟨e0, e1⟩, -⟩ := g3.cells
  obtain ⟨⟨c0, c1⟩, -⟩ := HG3.out.cells
  clear g3
  go_region_with (go_at_call 26; refine (FR.out _).mono ?_; rintro r w9 ⟨rfl, t9⟩; have T9 := Lib.hid t9; obtain ⟨⟨x0, x1⟩, -⟩ := (show BBx w9 w.heap.size t f from HG3.out.turn ((Turn.refl (fun _ => False) w2).drew.trans t9 (fun _ _ h => h)) (fun h => h)).cells; obtain ⟨⟨y0, y1⟩, -⟩ := (show BBx w9 p x from' from HGx.out.turn ((Turn.refl (fun _ => False) w2).drew.trans t9 (fun _ _ h => h)) (fun h => h)).cells; clear t9)
  all_goals
    have t4 : Turn (fun _ => False) w2 w9 := (Turn.refl (fun _ => False) w2).drew.trans T9.out (fun _ _ h => h)
    clear e0 e1 c0 c1 x0 x1 y0 y1
    have HG4 := Lib.hid (HG2.out.turn t4 (fun h => h))
    have HT4 := Lib.hid (HT2.out.trans t4 (fun _ _ h => h))
    have f3 := (HGx.out.turn t4 (fun h => h)).cells
    have f4 := (HG3.out.turn t4 (fun h => h)).cells
    obtain ⟨⟨a0, a1⟩, -⟩ := f3
    obtain ⟨⟨b0, b1⟩, -⟩ := f4
    obtain ⟨⟨d0, d1⟩, d2, d3⟩ := HG4.out.cells
    clear t4
    go_wp2
    have h9 := HG4.out.set t f
    refine bodyPost_ret (v := .tuple #[blV t f, .bool false]) ?_ rfl ⟨by rw [HB.out.1, HB.out.2.1, HB.out.2.2], HT4.out.trans h9.2 (fun i hi e => by have e : i = w.heap.size + 1 := e; omega)⟩
    exact results_bl Try.results9 _ _ (w.heap.size + 1) _ _ rfl rfl h9.1 rfl
end Go.Proofs.Ytmkpoodhhpfgpaa
