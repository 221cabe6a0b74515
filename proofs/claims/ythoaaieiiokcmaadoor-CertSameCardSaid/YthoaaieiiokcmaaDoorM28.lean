/- Merged: The landed 'Same' of certificates, with slices.Equal of digests. -/
import Derived.Test.YthoaaieiiokcmaaDoorM26
namespace Go.Proofs.YthoaaieiiokcmaaDoor
section
set_option linter.unusedVariables false
set_option linter.unusedSimpArgs false
open Go.RowKit
attribute [local go_sem ↓] loadAt_cr loadAt_hd loadAt_en loadAt_id
attribute [local go_sem] run_crLoad run_hdLoad run_enLoad run_idLoad rowOf_drew rowOf_drewN
set_option maxRecDepth 100000 in
set_option maxHeartbeats 2000000 in
theorem idsEqual_any (A A' : Option Addr) (c c' : Nat) (xs ys : List (List B8)) (w : World) (hx : IdsAt w A xs) (hy : IdsAt w A' ys) (hlx : xs.length ≤ maxLen) (hly : ys.length ≤ maxLen) :
    Calls Tryd.prog 60 #[.slice A xs.length c, .slice A' ys.length c'] w fun e w' => e = .returned (.bool (decide (xs = ys))) ∧ ∃ n, w' = w.drewN n := by
  unfold maxLen at hlx hly
  have HX := Lib.hid hx
  have HY := Lib.hid hy
  clear hx hy
  by_cases hl : xs.length = ys.length
  · have HL := Lib.hid hl
    go_enter Tryd.func60, Tryd.ntmps60
    go_wp2
    go_loopw [13] (fun i wr => ∃ k n : Nat, k ≤ xs.length ∧ i = .int .i64 k ∧ xs.take k = ys.take k ∧ wr = w.drewN n) (fun i _ => xs.length - (intOf i).toNat)
    case atStart => exact ⟨0, 0, Nat.zero_le _, rfl, by simp, rfl⟩
    case round =>
      obtain ⟨k, n, hk, rfl, he, rfl⟩ := hrel
      have HE := Lib.hid he
      clear he
      by_cases hlt : k < xs.length
      · have hlt' : k < ys.length := by omega
        obtain ⟨b1, o1, rfl, -, hc⟩ := HX.out.row (List.getElem?_eq_getElem hlt)
        obtain ⟨b2, o2, rfl, -, hc'⟩ := HY.out.row (List.getElem?_eq_getElem hlt')
        have l1 := (HX.out k _ (List.getElem?_eq_getElem hlt)).1
        have l2 := (HY.out k _ (List.getElem?_eq_getElem hlt')).1
        have HT := Lib.hid (show (xs[k] = ys[k]) → xs.take (k + 1) = ys.take (k + 1) from fun h => by rw [List.take_succ_eq_append_getElem hlt, List.take_succ_eq_append_getElem hlt', HE.out, h])
        have HN := Lib.hid (show ¬ (xs[k] = ys[k]) → decide (xs = ys) = false from fun h => by
          rw [decide_eq_false_iff_not]; intro e; subst e; exact h rfl)
        generalize xs[k] = x at *
        generalize ys[k] = y at *
        have q := neq_id x y l1 l2
        by_cases hxy : x = y
        · subst hxy
          have HT2 := Lib.hid (HT.out rfl)
          have q2 : ∀ w, (binOp .neq 24 (.agg (x.map bv).toArray) (.agg (x.map bv).toArray)).run Tryd.prog w = .ok (.bool false) w := fun w => by rw [q w]; simp
          clear HT HN q l1 l2
          generalize (x.map bv).toArray = X at *
          go_wp2
          go_quiet (fail)
          go_wp2
          go_roundw
          case rel => exact ⟨k + 1, _, by omega, by go_num, HT2.out, rfl⟩
          case measure => simp [intOf]; omega
        · have q2 : ∀ w, (binOp .neq 24 (.agg (x.map bv).toArray) (.agg (y.map bv).toArray)).run Tryd.prog w = .ok (.bool true) w := fun w => by rw [q w]; simp [hxy]
          have HN2 := Lib.hid (HN.out hxy)
          clear HT HN q l1 l2
          generalize (x.map bv).toArray = X at *
          generalize (y.map bv).toArray = Y at *
          go_wp2
          go_quiet (fail)
          go_wp2
          go_ret
          rw [HN2.out]
          exact ⟨rfl, n + nq, drewN_add _ _ _⟩
      · have HD : decide (xs = ys) = true := by
          have h := HE.out
          rw [List.take_of_length_le (by omega), List.take_of_length_le (by omega)] at h
          exact decide_eq_true h
        have HD := Lib.hid HD
        go_wp2
        go_ret
        rw [HD.out]
        exact ⟨rfl, _, rfl⟩
  · have HD := Lib.hid (show decide (xs = ys) = false from decide_eq_false fun h => hl (by rw [h]))
    have hl2 : ¬ ((xs.length : Int) = (ys.length : Int)) := by omega
    go_enter Tryd.func60, Tryd.ntmps60
    go_wp2
    go_ret
    rw [HD.out]
    exact ⟨rfl, 0, rfl⟩
set_option maxRecDepth 100000 in
set_option maxHeartbeats 4000000 in
theorem csame_any (x y : Crt) (A A' : Option Addr) (c c' : Nat) (w : World) (hx : x.L) (hy : y.L) (px : CPath w x A c) (py : CPath w y A' c') (mx : x.ids.length ≤ maxLen) (my : y.ids.length ≤ maxLen) :
    Calls Tryd.prog 23 #[.agg (x.cells A c).toArray, .agg (y.cells A' c').toArray] w fun r w' => r = .returned (.bool (decide (x.same y))) ∧ Turn (fun _ => False) w w' := by
  obtain ⟨C, hC⟩ : ∃ C, C = (x.cells A c).toArray := ⟨_, rfl⟩
  obtain ⟨D, hD⟩ : ∃ D, D = (y.cells A' c').toArray := ⟨_, rfl⟩
  rw [← hC, ← hD]
  obtain ⟨w1, hw1⟩ : ∃ w1, w1 = (w.alloc (.cells C 32)).alloc (.cells D 32) := ⟨_, rfl⟩
  have t1 : Turn (fun _ => False) w w1 := by rw [hw1]; exact ((Turn.refl _ _).alloc _).alloc _
  have F := CAt.facts (w := w1) (b := w.heap.size) (x := x) (A := A) (c := c) (by unfold CAt; rw [← hC, hw1]; exact heap_alloc2_old _ _ _) hx
  have G := CAt.facts (w := w1) (b := w.heap.size + 1) (x := y) (A := A') (c := c') (by unfold CAt; rw [← hD, hw1]; exact heap_alloc2_new _ _ _) hy
  have SM := Lib.hid (idsEqual_any A A' c c' x.ids y.ids w1 (px.turn t1).1 (py.turn t1).1 mx my)
  have qE := fun w => eql_in_ent x.e y.e hx.1 hy.1 w
  have qH := fun w => eql_in_hdr x.h y.h hx.2.1 hy.2.1 w
  have qT := fun w => eq_id x.t y.t hx.2.2.1 hy.2.2.1 w
  have f1 := F.ent
  have f2 := F.hdr
  have f3 := F.tag
  have f4 := F.path
  have g1 := G.ent
  have g2 := G.hdr
  have g3 := G.tag
  have g4 := G.path
  have hS : decide (x.same y) = (decide (x.e = y.e) && (decide (x.ids = y.ids) && (decide (x.h = y.h) && decide (x.t = y.t)))) := by
    rw [Bool.eq_iff_iff, decide_eq_true_eq]
    unfold Crt.same
    simp only [Bool.and_eq_true, decide_eq_true_eq]
    exact ⟨fun ⟨h1, h2, h3, h4⟩ => ⟨h1, h4, h2, h3⟩, fun ⟨h1, h4, h2, h3⟩ => ⟨h1, h2, h3, h4⟩⟩
  rw [hS]
  obtain ⟨EX, hEX⟩ : ∃ L, L = x.e.cells.toArray := ⟨_, rfl⟩
  obtain ⟨EY, hEY⟩ : ∃ L, L = y.e.cells.toArray := ⟨_, rfl⟩
  obtain ⟨HX, hHX⟩ : ∃ L, L = x.h.cells.toArray := ⟨_, rfl⟩
  obtain ⟨HY, hHY⟩ : ∃ L, L = y.h.cells.toArray := ⟨_, rfl⟩
  obtain ⟨TX, hTX⟩ : ∃ L, L = (x.t.map bv).toArray := ⟨_, rfl⟩
  obtain ⟨TY, hTY⟩ : ∃ L, L = (y.t.map bv).toArray := ⟨_, rfl⟩
  rw [← hEX] at qE f1
  rw [← hEY] at qE g1
  rw [← hHX] at qH f2
  rw [← hHY] at qH g2
  rw [← hTX] at qT f3
  rw [← hTY] at qT g3
  generalize decide (x.e = y.e) = be at *
  generalize decide (x.h = y.h) = bh at *
  generalize decide (x.t = y.t) = bt at *
  obtain ⟨nx, hnx⟩ : ∃ n, n = x.ids.length := ⟨_, rfl⟩
  obtain ⟨ny, hny⟩ : ∃ n, n = y.ids.length := ⟨_, rfl⟩
  rw [← hnx] at f4 SM
  rw [← hny] at g4 SM
  generalize decide (x.ids = y.ids) = bi at *
  have RF := Lib.hid (fun (w2 : World) (m : Nat) (e : w2 = w1.drewN m) => show rowOf w2 w.heap.size 0 37 = some EX ∧ rowOf w2 w.heap.size 38 67 = some HX ∧ rowOf w2 w.heap.size 105 32 = some TX ∧ w2.cell? ⟨w.heap.size, 37, none⟩ = some (.slice A nx c) ∧ rowOf w2 (w.heap.size + 1) 0 37 = some EY ∧ rowOf w2 (w.heap.size + 1) 38 67 = some HY ∧ rowOf w2 (w.heap.size + 1) 105 32 = some TY ∧ w2.cell? ⟨w.heap.size + 1, 37, none⟩ = some (.slice A' ny c') from by
    rw [e]
    simp only [rowOf_drewN]
    exact ⟨f1, f2, f3, f4, g1, g2, g3, g4⟩)
  have T1 := Lib.hid t1
  clear t1 F G hC hD hEX hEY hHX hHY hTX hTY hnx hny px py mx my hS hx hy
  cases be
  · go_enter Tryd.func23, Tryd.ntmps23
    go_upto_region 1 with fail
    change Code.wp _ _ _ _ ((w.alloc (.cells C 32)).alloc (.cells D 32))
    rw [← hw1]
    clear hw1
    go_wp2
    go_ret
    exact ⟨rfl, T1.out⟩
  cases bi
  · go_enter Tryd.func23, Tryd.ntmps23
    go_upto_region 1 with fail
    change Code.wp _ _ _ _ ((w.alloc (.cells C 32)).alloc (.cells D 32))
    rw [← hw1]
    clear hw1
    go_wp2_with (go_at_call 60; refine stop ?_)
    unfold Stop
    refine SM.out.mono ?_
    rintro r w2 ⟨rfl, m, hw2⟩
    have T2 := Lib.hid (show Turn (fun _ => False) w w2 by rw [hw2]; exact T1.out.drewN _)
    clear f1 f2 f3 f4 g1 g2 g3 g4
    obtain ⟨f1, f2, f3, f4, g1, g2, g3, g4⟩ := RF.out w2 m hw2
    clear hw2
    go_wp2
    go_ret
    exact ⟨rfl, T2.out⟩
  cases bh
  · go_enter Tryd.func23, Tryd.ntmps23
    go_upto_region 1 with fail
    change Code.wp _ _ _ _ ((w.alloc (.cells C 32)).alloc (.cells D 32))
    rw [← hw1]
    clear hw1
    go_wp2_with (go_at_call 60; refine stop ?_)
    unfold Stop
    refine SM.out.mono ?_
    rintro r w2 ⟨rfl, m, hw2⟩
    have T2 := Lib.hid (show Turn (fun _ => False) w w2 by rw [hw2]; exact T1.out.drewN _)
    clear f1 f2 f3 f4 g1 g2 g3 g4
    obtain ⟨f1, f2, f3, f4, g1, g2, g3, g4⟩ := RF.out w2 m hw2
    clear hw2
    go_wp2
    go_ret
    exact ⟨rfl, T2.out⟩
  cases bt
  · go_enter Tryd.func23, Tryd.ntmps23
    go_upto_region 1 with fail
    change Code.wp _ _ _ _ ((w.alloc (.cells C 32)).alloc (.cells D 32))
    rw [← hw1]
    clear hw1
    go_wp2_with (go_at_call 60; refine stop ?_)
    unfold Stop
    refine SM.out.mono ?_
    rintro r w2 ⟨rfl, m, hw2⟩
    have T2 := Lib.hid (show Turn (fun _ => False) w w2 by rw [hw2]; exact T1.out.drewN _)
    clear f1 f2 f3 f4 g1 g2 g3 g4
    obtain ⟨f1, f2, f3, f4, g1, g2, g3, g4⟩ := RF.out w2 m hw2
    clear hw2
    go_wp2
    go_ret
    exact ⟨rfl, T2.out⟩
  · go_enter Tryd.func23, Tryd.ntmps23
    go_upto_region 1 with fail
    change Code.wp _ _ _ _ ((w.alloc (.cells C 32)).alloc (.cells D 32))
    rw [← hw1]
    clear hw1
    go_wp2_with (go_at_call 60; refine stop ?_)
    unfold Stop
    refine SM.out.mono ?_
    rintro r w2 ⟨rfl, m, hw2⟩
    have T2 := Lib.hid (show Turn (fun _ => False) w w2 by rw [hw2]; exact T1.out.drewN _)
    clear f1 f2 f3 f4 g1 g2 g3 g4
    obtain ⟨f1, f2, f3, f4, g1, g2, g3, g4⟩ := RF.out w2 m hw2
    clear hw2
    go_wp2
    go_ret
    exact ⟨rfl, T2.out⟩
theorem csame : CSame := fun x y A A' c c' w h1 h2 h3 h4 h5 h6 => csame_any x y A A' c c' w h1 h2 h3 h4 h5 h6
end
end Go.Proofs.YthoaaieiiokcmaaDoor
