/- The landed letter: used. -/
import Derived.Test.YtaicpclkdpbacaaLtO
set_option linter.unusedVariables false
set_option linter.unusedSimpArgs false
namespace Go.Proofs.Ytaicpclkdpbacaa
open Go.RowKit
set_option maxRecDepth 100000 in
set_option maxHeartbeats 8000000 in
theorem used_any (A S : Option Addr) (cA cS : Nat) (l : Ltr) (w : World) :
    Calls Try.prog 26 #[ltV A cA S cS l] w fun e w' => e = .returned (ltV (uA l A) (uc l 3 cA) (uS l S) (uc l 5 cS) (usedL l)) ∧ Turn (fun _ => False) w w' := by
  obtain ⟨g, hg⟩ : ∃ g, g = w.heap.size := ⟨_, rfl⟩
  obtain ⟨wa, hwa⟩ : ∃ w0, w0 = w.alloc (.cells (ltC A cA S cS l) 25) := ⟨_, rfl⟩
  obtain ⟨wb, hwb⟩ : ∃ w0, w0 = wa.alloc (.cells ZLt 25) := ⟨_, rfl⟩
  obtain ⟨wc, hwc⟩ : ∃ w0, w0 = wb.alloc (.cells #[.int .i64 l.k, .int .i64 l.t, .int .i64 0, .int .i64 0, .int .i64 0, .bool false, .slice none 0 0, .slice none 0 0] 25) := ⟨_, rfl⟩
  have ta : Turn (fun _ => False) w wa := by rw [hwa]; exact (Turn.refl _ _).alloc _
  have tb : Turn (fun _ => False) wa wb := by rw [hwb]; exact (Turn.refl _ _).alloc _
  have tc : Turn (fun _ => False) wb wc := by rw [hwc]; exact (Turn.refl _ _).alloc _
  have sa : wa.heap.size = g + 1 := by rw [hwa, hg]; simp
  have sb : wb.heap.size = g + 2 := by rw [hwb]; simp [sa]
  have ga : LBx wc g A cA S cS l := tc.heap (tb.heap (by rw [hwa, hg]; exact heap_alloc_new _ _) (fun h => h)) (fun h => h)
  have gb : LBx wc (g + 1) none 0 none 0 zL := tc.heap (by rw [hwb, ← sa]; exact heap_alloc_new _ _) (fun h => h)
  have gc : wc.heap[g + 2]? = some (.cells #[.int .i64 l.k, .int .i64 l.t, .int .i64 0, .int .i64 0, .int .i64 0, .bool false, .slice none 0 0, .slice none 0 0] 25 (0, 0)) := by rw [hwc, ← sb]; exact heap_alloc_new _ _
  have HT := Lib.hid ((ta.trans tb (fun _ _ h => h)).trans tc (fun _ _ h => h))
  have HGA := Lib.hid ga
  have HGB := Lib.hid gb
  have HGC := Lib.hid gc
  have HG := Lib.hid hg
  have HWW := Lib.hid (And.intro hwa (And.intro hwb hwc))
  obtain ⟨⟨a0, a1, a2, a3, a4, a5, a6, a7⟩, -⟩ := row8 ga
  obtain ⟨-, u0, u1, u2, u3, u4, u5, u6, u7⟩ := row8 gc
  obtain ⟨⟨d0, d1, d2, d3, d4, d5, d6, d7⟩, -⟩ := row8 gc
  clear ta tb tc sa sb ga gb gc hg hwa hwb hwc
  go_enter Try.func26, Try.ntmps26
  go_upto_region 2 with fail
  change Code.wp _ _ _ _ (((w.alloc (.cells (ltC A cA S cS l) 25)).alloc (.cells ZLt 25)).alloc (.cells #[.int .i64 l.k, .int .i64 l.t, .int .i64 0, .int .i64 0, .int .i64 0, .bool false, .slice none 0 0, .slice none 0 0] 25))
  rw [← HWW.out.1, ← HWW.out.2.1, ← HWW.out.2.2, ← HG.out, show g + 1 + 1 = g + 2 from rfl]
  clear HWW
  by_cases h1 : l.k = 1
  · have e1 : (l.k == 1) = true := by rw [h1]; rfl
    have HK := Lib.hid h1
    clear h1
    go_upto_region 4 with fail
    go_region
    all_goals
      go_upto_region 13 with fail
      have q0 : (wc.setCell ⟨g + 2, 2, none⟩ (.int .i64 l.x)).heap[g + 2]? = some (.cells #[.int .i64 l.k, .int .i64 l.t, .int .i64 l.x, .int .i64 0, .int .i64 0, .bool false, .slice none 0 0, .slice none 0 0] 25 (0, 0)) := by rw [heap_setCell_same _ (g + 2) 2 _ _ _ HGC.out]; rfl
      have p0 : Turn (fun i => i = g + 2) wc (wc.setCell ⟨g + 2, 2, none⟩ (.int .i64 l.x)) := set_turn wc (g + 2) 2 _
      have q1 : ((wc.setCell ⟨g + 2, 2, none⟩ (.int .i64 l.x)).setCell ⟨g + 2, 3, none⟩ (.int .i64 l.y)).heap[g + 2]? = some (.cells #[.int .i64 l.k, .int .i64 l.t, .int .i64 l.x, .int .i64 l.y, .int .i64 0, .bool false, .slice none 0 0, .slice none 0 0] 25 (0, 0)) := by rw [heap_setCell_same _ (g + 2) 3 _ _ _ q0]; rfl
      have p1 : Turn (fun i => i = g + 2) wc ((wc.setCell ⟨g + 2, 2, none⟩ (.int .i64 l.x)).setCell ⟨g + 2, 3, none⟩ (.int .i64 l.y)) := p0.trans (set_turn _ (g + 2) 3 _) (fun _ _ h => h)
      obtain ⟨w2, hw2⟩ : ∃ w2, w2 = ((wc.setCell ⟨g + 2, 2, none⟩ (.int .i64 l.x)).setCell ⟨g + 2, 3, none⟩ (.int .i64 l.y)).drew := ⟨_, rfl⟩
      have g2 : w2.heap[g + 2]? = some (.cells #[.int .i64 l.k, .int .i64 l.t, .int .i64 l.x, .int .i64 l.y, .int .i64 0, .bool false, .slice none 0 0, .slice none 0 0] 25 (0, 0)) := by rw [hw2]; exact q1
      have t2 : Turn (fun i => i = g + 2) wc w2 := by rw [hw2]; exact p1.drew
      rw [← hw2]
      have gb2 := t2.heap HGB.out (by omega)
      have HT2 := Lib.hid (HT.out.trans t2 (fun i hi e => by have e : i = g + 2 := e; have := HG.out; omega))
      have HB2 := Lib.hid gb2
      clear a0 a1 a2 a3 a4 a5 a6 a7 u0 u1 u2 u3 u4 u5 u6 u7 d0 d1 d2 d3 d4 d5 d6 d7 hw2 t2 q0 p0 q1 p1
      obtain ⟨⟨d0, d1, d2, d3, d4, d5, d6, d7⟩, -⟩ := row8 g2
      obtain ⟨⟨x0, x1, x2, x3, x4, x5, x6, x7⟩, u0, u1, u2, u3, u4, u5, u6, u7⟩ := row8 gb2
      clear g2 gb2
      go_wp2_with fail
      have h1 := HK.out
      have h9 := set8 HB2.out (.int .i64 l.k) (.int .i64 l.t) (.int .i64 l.x) (.int .i64 l.y) (.int .i64 0) (.bool false) (.slice none 0 0) (.slice none 0 0)
      refine bodyPost_ret (v := .agg #[.int .i64 l.k, .int .i64 l.t, .int .i64 l.x, .int .i64 l.y, .int .i64 0, .bool false, .slice none 0 0, .slice none 0 0]) ?_ rfl ⟨by simp [usedL, uA, uc, uS, h1], HT2.out.trans h9.2 (fun i hi e => by have e : i = g + 1 := e; have := HG.out; omega)⟩
      exact results_cell_row Try.results26 _ _ (g + 1) _ #[.int .i64 l.k, .int .i64 l.t, .int .i64 l.x, .int .i64 l.y, .int .i64 0, .bool false, .slice none 0 0, .slice none 0 0] (0, 0) _ rfl h9.1 Try.underlying25 rfl lt_info
  by_cases h2 : l.k = 2
  · have e1 : (l.k == 1) = false := beq_false_of_ne h1
    have e2 : (l.k == 2) = true := by rw [h2]; rfl
    have HK := Lib.hid h2
    clear h2
    go_upto_region 13 with fail
    have q0 : (wc.setCell ⟨g + 2, 5, none⟩ (.bool l.s)).heap[g + 2]? = some (.cells #[.int .i64 l.k, .int .i64 l.t, .int .i64 0, .int .i64 0, .int .i64 0, .bool l.s, .slice none 0 0, .slice none 0 0] 25 (0, 0)) := by rw [heap_setCell_same _ (g + 2) 5 _ _ _ HGC.out]; rfl
    have p0 : Turn (fun i => i = g + 2) wc (wc.setCell ⟨g + 2, 5, none⟩ (.bool l.s)) := set_turn wc (g + 2) 5 _
    obtain ⟨w2, hw2⟩ : ∃ w2, w2 = (wc.setCell ⟨g + 2, 5, none⟩ (.bool l.s)) := ⟨_, rfl⟩
    have g2 : w2.heap[g + 2]? = some (.cells #[.int .i64 l.k, .int .i64 l.t, .int .i64 0, .int .i64 0, .int .i64 0, .bool l.s, .slice none 0 0, .slice none 0 0] 25 (0, 0)) := by rw [hw2]; exact q0
    have t2 : Turn (fun i => i = g + 2) wc w2 := by rw [hw2]; exact p0
    rw [← hw2]
    have gb2 := t2.heap HGB.out (by omega)
    have HT2 := Lib.hid (HT.out.trans t2 (fun i hi e => by have e : i = g + 2 := e; have := HG.out; omega))
    have HB2 := Lib.hid gb2
    clear a0 a1 a2 a3 a4 a5 a6 a7 u0 u1 u2 u3 u4 u5 u6 u7 d0 d1 d2 d3 d4 d5 d6 d7 hw2 t2 q0 p0
    obtain ⟨⟨d0, d1, d2, d3, d4, d5, d6, d7⟩, -⟩ := row8 g2
    obtain ⟨⟨x0, x1, x2, x3, x4, x5, x6, x7⟩, u0, u1, u2, u3, u4, u5, u6, u7⟩ := row8 gb2
    clear g2 gb2
    go_wp2_with fail
    have h2 := HK.out
    have h9 := set8 HB2.out (.int .i64 l.k) (.int .i64 l.t) (.int .i64 0) (.int .i64 0) (.int .i64 0) (.bool l.s) (.slice none 0 0) (.slice none 0 0)
    refine bodyPost_ret (v := .agg #[.int .i64 l.k, .int .i64 l.t, .int .i64 0, .int .i64 0, .int .i64 0, .bool l.s, .slice none 0 0, .slice none 0 0]) ?_ rfl ⟨by simp [usedL, uA, uc, uS, h1, h2], HT2.out.trans h9.2 (fun i hi e => by have e : i = g + 1 := e; have := HG.out; omega)⟩
    exact results_cell_row Try.results26 _ _ (g + 1) _ #[.int .i64 l.k, .int .i64 l.t, .int .i64 0, .int .i64 0, .int .i64 0, .bool l.s, .slice none 0 0, .slice none 0 0] (0, 0) _ rfl h9.1 Try.underlying25 rfl lt_info
  by_cases h3 : l.k = 3
  · have e1 : (l.k == 1) = false := beq_false_of_ne h1
    have e2 : (l.k == 2) = false := beq_false_of_ne h2
    have e3 : (l.k == 3) = true := by rw [h3]; rfl
    have HK := Lib.hid h3
    clear h3
    go_upto_region 8 with fail
    go_region
    all_goals
      go_upto_region 13 with fail
      have q0 : (wc.setCell ⟨g + 2, 2, none⟩ (.int .i64 l.x)).heap[g + 2]? = some (.cells #[.int .i64 l.k, .int .i64 l.t, .int .i64 l.x, .int .i64 0, .int .i64 0, .bool false, .slice none 0 0, .slice none 0 0] 25 (0, 0)) := by rw [heap_setCell_same _ (g + 2) 2 _ _ _ HGC.out]; rfl
      have p0 : Turn (fun i => i = g + 2) wc (wc.setCell ⟨g + 2, 2, none⟩ (.int .i64 l.x)) := set_turn wc (g + 2) 2 _
      have q1 : ((wc.setCell ⟨g + 2, 2, none⟩ (.int .i64 l.x)).setCell ⟨g + 2, 3, none⟩ (.int .i64 l.y)).heap[g + 2]? = some (.cells #[.int .i64 l.k, .int .i64 l.t, .int .i64 l.x, .int .i64 l.y, .int .i64 0, .bool false, .slice none 0 0, .slice none 0 0] 25 (0, 0)) := by rw [heap_setCell_same _ (g + 2) 3 _ _ _ q0]; rfl
      have p1 : Turn (fun i => i = g + 2) wc ((wc.setCell ⟨g + 2, 2, none⟩ (.int .i64 l.x)).setCell ⟨g + 2, 3, none⟩ (.int .i64 l.y)) := p0.trans (set_turn _ (g + 2) 3 _) (fun _ _ h => h)
      have q2 : (((wc.setCell ⟨g + 2, 2, none⟩ (.int .i64 l.x)).setCell ⟨g + 2, 3, none⟩ (.int .i64 l.y)).setCell ⟨g + 2, 4, none⟩ (.int .i64 l.z)).heap[g + 2]? = some (.cells #[.int .i64 l.k, .int .i64 l.t, .int .i64 l.x, .int .i64 l.y, .int .i64 l.z, .bool false, .slice none 0 0, .slice none 0 0] 25 (0, 0)) := by rw [heap_setCell_same _ (g + 2) 4 _ _ _ q1]; rfl
      have p2 : Turn (fun i => i = g + 2) wc (((wc.setCell ⟨g + 2, 2, none⟩ (.int .i64 l.x)).setCell ⟨g + 2, 3, none⟩ (.int .i64 l.y)).setCell ⟨g + 2, 4, none⟩ (.int .i64 l.z)) := p1.trans (set_turn _ (g + 2) 4 _) (fun _ _ h => h)
      have q3 : ((((wc.setCell ⟨g + 2, 2, none⟩ (.int .i64 l.x)).setCell ⟨g + 2, 3, none⟩ (.int .i64 l.y)).setCell ⟨g + 2, 4, none⟩ (.int .i64 l.z)).setCell ⟨g + 2, 6, none⟩ (.slice A l.its.length cA)).heap[g + 2]? = some (.cells #[.int .i64 l.k, .int .i64 l.t, .int .i64 l.x, .int .i64 l.y, .int .i64 l.z, .bool false, .slice A l.its.length cA, .slice none 0 0] 25 (0, 0)) := by rw [heap_setCell_same _ (g + 2) 6 _ _ _ q2]; rfl
      have p3 : Turn (fun i => i = g + 2) wc ((((wc.setCell ⟨g + 2, 2, none⟩ (.int .i64 l.x)).setCell ⟨g + 2, 3, none⟩ (.int .i64 l.y)).setCell ⟨g + 2, 4, none⟩ (.int .i64 l.z)).setCell ⟨g + 2, 6, none⟩ (.slice A l.its.length cA)) := p2.trans (set_turn _ (g + 2) 6 _) (fun _ _ h => h)
      obtain ⟨w2, hw2⟩ : ∃ w2, w2 = ((((wc.setCell ⟨g + 2, 2, none⟩ (.int .i64 l.x)).setCell ⟨g + 2, 3, none⟩ (.int .i64 l.y)).setCell ⟨g + 2, 4, none⟩ (.int .i64 l.z)).setCell ⟨g + 2, 6, none⟩ (.slice A l.its.length cA)).drew := ⟨_, rfl⟩
      have g2 : w2.heap[g + 2]? = some (.cells #[.int .i64 l.k, .int .i64 l.t, .int .i64 l.x, .int .i64 l.y, .int .i64 l.z, .bool false, .slice A l.its.length cA, .slice none 0 0] 25 (0, 0)) := by rw [hw2]; exact q3
      have t2 : Turn (fun i => i = g + 2) wc w2 := by rw [hw2]; exact p3.drew
      rw [← hw2]
      have gb2 := t2.heap HGB.out (by omega)
      have HT2 := Lib.hid (HT.out.trans t2 (fun i hi e => by have e : i = g + 2 := e; have := HG.out; omega))
      have HB2 := Lib.hid gb2
      clear a0 a1 a2 a3 a4 a5 a6 a7 u0 u1 u2 u3 u4 u5 u6 u7 d0 d1 d2 d3 d4 d5 d6 d7 hw2 t2 q0 p0 q1 p1 q2 p2 q3 p3
      obtain ⟨⟨d0, d1, d2, d3, d4, d5, d6, d7⟩, -⟩ := row8 g2
      obtain ⟨⟨x0, x1, x2, x3, x4, x5, x6, x7⟩, u0, u1, u2, u3, u4, u5, u6, u7⟩ := row8 gb2
      clear g2 gb2
      go_wp2_with fail
      have h3 := HK.out
      have h9 := set8 HB2.out (.int .i64 l.k) (.int .i64 l.t) (.int .i64 l.x) (.int .i64 l.y) (.int .i64 l.z) (.bool false) (.slice A l.its.length cA) (.slice none 0 0)
      refine bodyPost_ret (v := .agg #[.int .i64 l.k, .int .i64 l.t, .int .i64 l.x, .int .i64 l.y, .int .i64 l.z, .bool false, .slice A l.its.length cA, .slice none 0 0]) ?_ rfl ⟨by simp [usedL, uA, uc, uS, h1, h2, h3], HT2.out.trans h9.2 (fun i hi e => by have e : i = g + 1 := e; have := HG.out; omega)⟩
      exact results_cell_row Try.results26 _ _ (g + 1) _ #[.int .i64 l.k, .int .i64 l.t, .int .i64 l.x, .int .i64 l.y, .int .i64 l.z, .bool false, .slice A l.its.length cA, .slice none 0 0] (0, 0) _ rfl h9.1 Try.underlying25 rfl lt_info
  by_cases h4 : l.k = 4
  · have e1 : (l.k == 1) = false := beq_false_of_ne h1
    have e2 : (l.k == 2) = false := beq_false_of_ne h2
    have e3 : (l.k == 3) = false := beq_false_of_ne h3
    have e4 : (l.k == 4) = true := by rw [h4]; rfl
    have HK := Lib.hid h4
    clear h4
    go_upto_region 10 with fail
    go_region
    all_goals
      go_upto_region 13 with fail
      have q0 : (wc.setCell ⟨g + 2, 5, none⟩ (.bool l.s)).heap[g + 2]? = some (.cells #[.int .i64 l.k, .int .i64 l.t, .int .i64 0, .int .i64 0, .int .i64 0, .bool l.s, .slice none 0 0, .slice none 0 0] 25 (0, 0)) := by rw [heap_setCell_same _ (g + 2) 5 _ _ _ HGC.out]; rfl
      have p0 : Turn (fun i => i = g + 2) wc (wc.setCell ⟨g + 2, 5, none⟩ (.bool l.s)) := set_turn wc (g + 2) 5 _
      have q1 : ((wc.setCell ⟨g + 2, 5, none⟩ (.bool l.s)).setCell ⟨g + 2, 2, none⟩ (.int .i64 l.x)).heap[g + 2]? = some (.cells #[.int .i64 l.k, .int .i64 l.t, .int .i64 l.x, .int .i64 0, .int .i64 0, .bool l.s, .slice none 0 0, .slice none 0 0] 25 (0, 0)) := by rw [heap_setCell_same _ (g + 2) 2 _ _ _ q0]; rfl
      have p1 : Turn (fun i => i = g + 2) wc ((wc.setCell ⟨g + 2, 5, none⟩ (.bool l.s)).setCell ⟨g + 2, 2, none⟩ (.int .i64 l.x)) := p0.trans (set_turn _ (g + 2) 2 _) (fun _ _ h => h)
      have q2 : (((wc.setCell ⟨g + 2, 5, none⟩ (.bool l.s)).setCell ⟨g + 2, 2, none⟩ (.int .i64 l.x)).setCell ⟨g + 2, 4, none⟩ (.int .i64 l.z)).heap[g + 2]? = some (.cells #[.int .i64 l.k, .int .i64 l.t, .int .i64 l.x, .int .i64 0, .int .i64 l.z, .bool l.s, .slice none 0 0, .slice none 0 0] 25 (0, 0)) := by rw [heap_setCell_same _ (g + 2) 4 _ _ _ q1]; rfl
      have p2 : Turn (fun i => i = g + 2) wc (((wc.setCell ⟨g + 2, 5, none⟩ (.bool l.s)).setCell ⟨g + 2, 2, none⟩ (.int .i64 l.x)).setCell ⟨g + 2, 4, none⟩ (.int .i64 l.z)) := p1.trans (set_turn _ (g + 2) 4 _) (fun _ _ h => h)
      obtain ⟨w2, hw2⟩ : ∃ w2, w2 = (((wc.setCell ⟨g + 2, 5, none⟩ (.bool l.s)).setCell ⟨g + 2, 2, none⟩ (.int .i64 l.x)).setCell ⟨g + 2, 4, none⟩ (.int .i64 l.z)).drew := ⟨_, rfl⟩
      have g2 : w2.heap[g + 2]? = some (.cells #[.int .i64 l.k, .int .i64 l.t, .int .i64 l.x, .int .i64 0, .int .i64 l.z, .bool l.s, .slice none 0 0, .slice none 0 0] 25 (0, 0)) := by rw [hw2]; exact q2
      have t2 : Turn (fun i => i = g + 2) wc w2 := by rw [hw2]; exact p2.drew
      rw [← hw2]
      have gb2 := t2.heap HGB.out (by omega)
      have HT2 := Lib.hid (HT.out.trans t2 (fun i hi e => by have e : i = g + 2 := e; have := HG.out; omega))
      have HB2 := Lib.hid gb2
      clear a0 a1 a2 a3 a4 a5 a6 a7 u0 u1 u2 u3 u4 u5 u6 u7 d0 d1 d2 d3 d4 d5 d6 d7 hw2 t2 q0 p0 q1 p1 q2 p2
      obtain ⟨⟨d0, d1, d2, d3, d4, d5, d6, d7⟩, -⟩ := row8 g2
      obtain ⟨⟨x0, x1, x2, x3, x4, x5, x6, x7⟩, u0, u1, u2, u3, u4, u5, u6, u7⟩ := row8 gb2
      clear g2 gb2
      go_wp2_with fail
      have h4 := HK.out
      have h9 := set8 HB2.out (.int .i64 l.k) (.int .i64 l.t) (.int .i64 l.x) (.int .i64 0) (.int .i64 l.z) (.bool l.s) (.slice none 0 0) (.slice none 0 0)
      refine bodyPost_ret (v := .agg #[.int .i64 l.k, .int .i64 l.t, .int .i64 l.x, .int .i64 0, .int .i64 l.z, .bool l.s, .slice none 0 0, .slice none 0 0]) ?_ rfl ⟨by simp [usedL, uA, uc, uS, h1, h2, h3, h4], HT2.out.trans h9.2 (fun i hi e => by have e : i = g + 1 := e; have := HG.out; omega)⟩
      exact results_cell_row Try.results26 _ _ (g + 1) _ #[.int .i64 l.k, .int .i64 l.t, .int .i64 l.x, .int .i64 0, .int .i64 l.z, .bool l.s, .slice none 0 0, .slice none 0 0] (0, 0) _ rfl h9.1 Try.underlying25 rfl lt_info
  by_cases h5 : l.k = 5
  · have e1 : (l.k == 1) = false := beq_false_of_ne h1
    have e2 : (l.k == 2) = false := beq_false_of_ne h2
    have e3 : (l.k == 3) = false := beq_false_of_ne h3
    have e4 : (l.k == 4) = false := beq_false_of_ne h4
    have e5 : (l.k == 5) = true := by rw [h5]; rfl
    have HK := Lib.hid h5
    clear h5
    go_upto_region 12 with fail
    go_region
    all_goals
      go_upto_region 13 with fail
      have q0 : (wc.setCell ⟨g + 2, 2, none⟩ (.int .i64 l.x)).heap[g + 2]? = some (.cells #[.int .i64 l.k, .int .i64 l.t, .int .i64 l.x, .int .i64 0, .int .i64 0, .bool false, .slice none 0 0, .slice none 0 0] 25 (0, 0)) := by rw [heap_setCell_same _ (g + 2) 2 _ _ _ HGC.out]; rfl
      have p0 : Turn (fun i => i = g + 2) wc (wc.setCell ⟨g + 2, 2, none⟩ (.int .i64 l.x)) := set_turn wc (g + 2) 2 _
      have q1 : ((wc.setCell ⟨g + 2, 2, none⟩ (.int .i64 l.x)).setCell ⟨g + 2, 3, none⟩ (.int .i64 l.y)).heap[g + 2]? = some (.cells #[.int .i64 l.k, .int .i64 l.t, .int .i64 l.x, .int .i64 l.y, .int .i64 0, .bool false, .slice none 0 0, .slice none 0 0] 25 (0, 0)) := by rw [heap_setCell_same _ (g + 2) 3 _ _ _ q0]; rfl
      have p1 : Turn (fun i => i = g + 2) wc ((wc.setCell ⟨g + 2, 2, none⟩ (.int .i64 l.x)).setCell ⟨g + 2, 3, none⟩ (.int .i64 l.y)) := p0.trans (set_turn _ (g + 2) 3 _) (fun _ _ h => h)
      have q2 : (((wc.setCell ⟨g + 2, 2, none⟩ (.int .i64 l.x)).setCell ⟨g + 2, 3, none⟩ (.int .i64 l.y)).setCell ⟨g + 2, 7, none⟩ (.slice S l.b.length cS)).heap[g + 2]? = some (.cells #[.int .i64 l.k, .int .i64 l.t, .int .i64 l.x, .int .i64 l.y, .int .i64 0, .bool false, .slice none 0 0, .slice S l.b.length cS] 25 (0, 0)) := by rw [heap_setCell_same _ (g + 2) 7 _ _ _ q1]; rfl
      have p2 : Turn (fun i => i = g + 2) wc (((wc.setCell ⟨g + 2, 2, none⟩ (.int .i64 l.x)).setCell ⟨g + 2, 3, none⟩ (.int .i64 l.y)).setCell ⟨g + 2, 7, none⟩ (.slice S l.b.length cS)) := p1.trans (set_turn _ (g + 2) 7 _) (fun _ _ h => h)
      obtain ⟨w2, hw2⟩ : ∃ w2, w2 = (((wc.setCell ⟨g + 2, 2, none⟩ (.int .i64 l.x)).setCell ⟨g + 2, 3, none⟩ (.int .i64 l.y)).setCell ⟨g + 2, 7, none⟩ (.slice S l.b.length cS)).drew := ⟨_, rfl⟩
      have g2 : w2.heap[g + 2]? = some (.cells #[.int .i64 l.k, .int .i64 l.t, .int .i64 l.x, .int .i64 l.y, .int .i64 0, .bool false, .slice none 0 0, .slice S l.b.length cS] 25 (0, 0)) := by rw [hw2]; exact q2
      have t2 : Turn (fun i => i = g + 2) wc w2 := by rw [hw2]; exact p2.drew
      rw [← hw2]
      have gb2 := t2.heap HGB.out (by omega)
      have HT2 := Lib.hid (HT.out.trans t2 (fun i hi e => by have e : i = g + 2 := e; have := HG.out; omega))
      have HB2 := Lib.hid gb2
      clear a0 a1 a2 a3 a4 a5 a6 a7 u0 u1 u2 u3 u4 u5 u6 u7 d0 d1 d2 d3 d4 d5 d6 d7 hw2 t2 q0 p0 q1 p1 q2 p2
      obtain ⟨⟨d0, d1, d2, d3, d4, d5, d6, d7⟩, -⟩ := row8 g2
      obtain ⟨⟨x0, x1, x2, x3, x4, x5, x6, x7⟩, u0, u1, u2, u3, u4, u5, u6, u7⟩ := row8 gb2
      clear g2 gb2
      go_wp2_with fail
      have h5 := HK.out
      have h9 := set8 HB2.out (.int .i64 l.k) (.int .i64 l.t) (.int .i64 l.x) (.int .i64 l.y) (.int .i64 0) (.bool false) (.slice none 0 0) (.slice S l.b.length cS)
      refine bodyPost_ret (v := .agg #[.int .i64 l.k, .int .i64 l.t, .int .i64 l.x, .int .i64 l.y, .int .i64 0, .bool false, .slice none 0 0, .slice S l.b.length cS]) ?_ rfl ⟨by simp [usedL, uA, uc, uS, h1, h2, h3, h4, h5], HT2.out.trans h9.2 (fun i hi e => by have e : i = g + 1 := e; have := HG.out; omega)⟩
      exact results_cell_row Try.results26 _ _ (g + 1) _ #[.int .i64 l.k, .int .i64 l.t, .int .i64 l.x, .int .i64 l.y, .int .i64 0, .bool false, .slice none 0 0, .slice S l.b.length cS] (0, 0) _ rfl h9.1 Try.underlying25 rfl lt_info
  have e1 : (l.k == 1) = false := beq_false_of_ne h1
  have e2 : (l.k == 2) = false := beq_false_of_ne h2
  have e3 : (l.k == 3) = false := beq_false_of_ne h3
  have e4 : (l.k == 4) = false := beq_false_of_ne h4
  have e5 : (l.k == 5) = false := beq_false_of_ne h5
  go_upto_region 13 with fail
  obtain ⟨w2, hw2⟩ : ∃ w2, w2 = wc := ⟨_, rfl⟩
  have g2 : w2.heap[g + 2]? = some (.cells #[.int .i64 l.k, .int .i64 l.t, .int .i64 0, .int .i64 0, .int .i64 0, .bool false, .slice none 0 0, .slice none 0 0] 25 (0, 0)) := by rw [hw2]; exact HGC.out
  have t2 : Turn (fun i => i = g + 2) wc w2 := by rw [hw2]; exact Turn.refl _ _
  rw [← hw2]
  have gb2 := t2.heap HGB.out (by omega)
  have HT2 := Lib.hid (HT.out.trans t2 (fun i hi e => by have e : i = g + 2 := e; have := HG.out; omega))
  have HB2 := Lib.hid gb2
  clear a0 a1 a2 a3 a4 a5 a6 a7 u0 u1 u2 u3 u4 u5 u6 u7 d0 d1 d2 d3 d4 d5 d6 d7 hw2 t2
  obtain ⟨⟨d0, d1, d2, d3, d4, d5, d6, d7⟩, -⟩ := row8 g2
  obtain ⟨⟨x0, x1, x2, x3, x4, x5, x6, x7⟩, u0, u1, u2, u3, u4, u5, u6, u7⟩ := row8 gb2
  clear g2 gb2
  go_wp2_with fail
  have h9 := set8 HB2.out (.int .i64 l.k) (.int .i64 l.t) (.int .i64 0) (.int .i64 0) (.int .i64 0) (.bool false) (.slice none 0 0) (.slice none 0 0)
  refine bodyPost_ret (v := .agg #[.int .i64 l.k, .int .i64 l.t, .int .i64 0, .int .i64 0, .int .i64 0, .bool false, .slice none 0 0, .slice none 0 0]) ?_ rfl ⟨by simp [usedL, uA, uc, uS, h1, h2, h3, h4, h5], HT2.out.trans h9.2 (fun i hi e => by have e : i = g + 1 := e; have := HG.out; omega)⟩
  exact results_cell_row Try.results26 _ _ (g + 1) _ #[.int .i64 l.k, .int .i64 l.t, .int .i64 0, .int .i64 0, .int .i64 0, .bool false, .slice none 0 0, .slice none 0 0] (0, 0) _ rfl h9.1 Try.underlying25 rfl lt_info
end Go.Proofs.Ytaicpclkdpbacaa
