/- The document's reader of letters: its contract. -/
import Derived.Test.YtaicpclkdpbacaaLtK
set_option linter.unusedVariables false
set_option linter.unusedSimpArgs false
namespace Go.Proofs.Ytaicpclkdpbacaa
open Go.RowKit
theorem rd_fin {b : List B8} {s : Rs} {lt : Ltr} (h1 : (s1 b).e = 0) (hk : k1 b ≠ 0) (hS : rdS b = s) (hV : bodV (k1 b) ((s1 b).nv MX) (s2 b) = lt) :
    (s.e = 0 → s.l = [] → rdE b = 0 ∧ rdV b = lt) ∧ (s.e = 0 → s.l ≠ [] → rdE b = 3 ∧ rdV b = zL) ∧ (s.e ≠ 0 → rdE b = s.e ∧ rdV b = zL) := by
  refine ⟨fun he hl => ?_, fun he hl => ?_, fun he => ?_⟩
  · have e : rdE b = 0 := by unfold rdE; rw [if_neg (by omega), if_neg hk, hS, if_neg (by omega), if_neg (by simp [hl])]
    exact ⟨e, by unfold rdV; rw [e, if_neg (by simp)]; exact hV⟩
  · have e : rdE b = 3 := by unfold rdE; rw [if_neg (by omega), if_neg hk, hS, if_neg (by omega), if_pos hl]
    exact ⟨e, by unfold rdV; rw [e, if_pos (by simp)]⟩
  · have e : rdE b = s.e := by unfold rdE; rw [if_neg (by omega), if_neg hk, hS, if_pos he]
    exact ⟨e, by unfold rdV; rw [e, if_pos he]⟩
theorem k1_le (b : List B8) : k1 b ≤ 5 := nv_le _ _
set_option maxRecDepth 100000 in
set_option maxHeartbeats 16000000 in
theorem rlread_any (A : Option Addr) (c : Nat) (b : List B8) (w : World) (hs : Sl w w.heap.size A (b.map bv)) (hA : A = none → c = 0) (hc : b.length ≤ c) (hlen : b.length ≤ 1099511627776) :
    Calls Try.prog 16 #[.slice A b.length c] w (LPost b w) := by
  obtain ⟨W, hW⟩ : ∃ W, W = w.heap.size := ⟨_, rfl⟩
  obtain ⟨wa, hwa⟩ : ∃ w1, w1 = w.alloc (.cells ZLt 25) := ⟨_, rfl⟩
  obtain ⟨wb, hwb⟩ : ∃ w2, w2 = wa.alloc (.cells #[.slice A b.length c, .int .i64 0] 61) := ⟨_, rfl⟩
  have sa : wa.heap.size = W + 1 := by rw [hwa, hW]; simp
  have sb : wb.heap.size = W + 2 := by rw [hwb]; simp [sa]
  have ta : Turn (fun _ => False) w wa := by rw [hwa]; exact (Turn.refl _ _).alloc _
  have tb : Turn (fun _ => False) wa wb := by rw [hwb]; exact (Turn.refl _ _).alloc _
  have tab : Turn (fun _ => False) w wb := ta.trans tb (fun _ _ h => h)
  have ga : LBx wb W none 0 none 0 zL := tb.heap (by rw [hwa, hW]; exact heap_alloc_new _ _) (fun h => h)
  have gb : wb.heap[W + 1]? = some (.cells #[.slice A b.length c, .int .i64 0] 61 (0, 0)) := by rw [hwb, ← sa]; exact heap_alloc_new _ _
  have Yb : YS wb (fun i => W ≤ i) (W + 1) 0 b := ⟨A, c, b.length, gb, fun _ => ⟨rfl, ⟨(SlN.of hs (N := fun i => W ≤ i) (fun i hi => by omega)).turn tab (fun _ h => h.elim) (fun _ _ h => h), hA, hc⟩, hlen⟩⟩
  have HW := Lib.hid hW
  have HN := Lib.hid (fun (w' : World) (h : W ≤ w'.heap.size) (i : Nat) (hi : w'.heap.size ≤ i) => show W ≤ i by omega)
  have hWy : W ≤ W + 1 := by omega
  have T := enum_any (fun i => W ≤ i) (W + 1) 0 5 b wb Yb hWy (HN.out wb (by omega)) (by decide)
  change Calls _ _ _ _ (fun r w' => r = .returned (.int .i64 ((k1 b : Nat) : Int)) ∧ YS w' _ _ (s1 b).e (s1 b).l ∧ _) at T
  obtain ⟨K, hK⟩ : ∃ K, K = k1 b := ⟨_, rfl⟩
  obtain ⟨rA, hrA⟩ : ∃ s, s = s1 b := ⟨_, rfl⟩
  rw [← hK, ← hrA] at T
  have k5 : K ≤ 5 := by rw [hK]; exact k1_le b
  have HK := Lib.hid hK
  have HRA := Lib.hid hrA
  have T := Lib.hid T
  have GA := Lib.hid (And.intro ga tab)
  have SB := Lib.hid sb
  have HWAB := Lib.hid (And.intro hwa hwb)
  clear hW hK hrA hwa hwb sa sb ta tb tab ga gb Yb hs hA hc hlen
  go_enter Try.func16, Try.ntmps16
  go_upto_region 2 with fail
  change Code.wp _ _ _ _ ((w.alloc (.cells ZLt 25)).alloc (.cells #[.slice A b.length c, .int .i64 0] 61))
  rw [← HWAB.out.1, ← HWAB.out.2, ← HW.out]
  clear HWAB
  go_wp2_with fail
  refine T.out.mono ?_
  rintro r wc ⟨rfl, hy, t⟩
  obtain ⟨Z, hZ⟩ : ∃ Z, Z = wc.heap.size := ⟨_, rfl⟩
  obtain ⟨w1, hw1⟩ : ∃ w1, w1 = wc.alloc (.cells #[.int .i64 (K : Int), .int .i64 0, .int .i64 0, .int .i64 0, .int .i64 0, .bool false, .slice none 0 0, .slice none 0 0] 25) := ⟨_, rfl⟩
  have hZ2 : W + 2 ≤ Z := by have := t.size; have := SB.out; omega
  have D1 := Lib.hid (show DSt W Z w w1 rA none 0 none 0 ⟨(K : Int), 0, 0, 0, 0, false, [], []⟩ from by
    have tq : Turn (fun _ => False) wc w1 := by rw [hw1]; exact (Turn.refl _ _).alloc _
    obtain ⟨Ay, cy, n, hyr, hyl⟩ := hy
    refine ⟨⟨Ay, cy, n, tq.heap hyr (fun h => h), fun h0 => ?_⟩, (GA.out.1.turn t (by omega)).turn tq (fun h => h), by rw [hw1, hZ]; exact heap_alloc_new _ _, (GA.out.2.trans t (fun i hi e => by have e : i = W + 1 := e; have := HW.out; omega)).trans tq (fun _ _ h => h), ⟨[], World.ownsRow_nil _ _ _ _, rfl, fun i p h => by simp at h⟩, ⟨fun j u h => by simp at h, fun _ => rfl, Nat.le_refl _⟩, by rw [hw1, hZ]; simp, hZ2⟩
    obtain ⟨a1, a2, a3⟩ := hyl h0
    exact ⟨a1, a2.turn tq (fun _ h => h.elim) (fun _ _ h => h), a3⟩)
  have HZ := Lib.hid hZ
  have HW1 := Lib.hid hw1
  clear hy t T GA SB hw1 hZ
  go_upto_region 3 with fail
  change Code.wp _ _ _ _ (wc.alloc (.cells #[.int .i64 (K : Int), .int .i64 0, .int .i64 0, .int .i64 0, .int .i64 0, .bool false, .slice none 0 0, .slice none 0 0] 25))
  rw [← HW1.out, ← HZ.out]
  clear HW1 HZ
  obtain ⟨Ay, cy, ny, ⟨y0, y1⟩, ⟨q0, q1⟩, hny, hyr⟩ := D1.out.ys
  clear hny hyr
  by_cases hA0 : rA.e = 0
  rotate_left 1
  · obtain rfl : K = 0 := by
      have h1 : (s1 b).e ≠ 0 := by rw [← HRA.out]; exact hA0
      rw [HK.out]
      show (if nE (s0 b).e 5 (s0 b).l ≠ 0 then 0 else numV (s0 b).l) = 0
      exact if_pos h1
    have t1 : ((rA.e : Int) == 0) = false := by rw [beq_eq_false_iff_ne]; omega
    have D1 := Lib.hid (show DSt W Z w w1 rA none 0 none 0 ⟨0, 0, 0, 0, 0, false, [], []⟩ from D1.out)
    have c0 : w1.cell? ⟨Z, 0, none⟩ = some (.int .i64 0) := (row8 D1.out.t).1.1
    have c1 : w1.cell? ⟨Z, 1, none⟩ = some (.int .i64 0) := (row8 D1.out.t).1.2.1
    have c2 : w1.cell? ⟨Z, 2, none⟩ = some (.int .i64 0) := (row8 D1.out.t).1.2.2.1
    have c3 : w1.cell? ⟨Z, 3, none⟩ = some (.int .i64 0) := (row8 D1.out.t).1.2.2.2.1
    have c4 : w1.cell? ⟨Z, 4, none⟩ = some (.int .i64 0) := (row8 D1.out.t).1.2.2.2.2.1
    have c5 : w1.cell? ⟨Z, 5, none⟩ = some (.bool false) := (row8 D1.out.t).1.2.2.2.2.2.1
    have c6 : w1.cell? ⟨Z, 6, none⟩ = some (.slice none 0 0) := (row8 D1.out.t).1.2.2.2.2.2.2.1
    have c7 : w1.cell? ⟨Z, 7, none⟩ = some (.slice none 0 0) := (row8 D1.out.t).1.2.2.2.2.2.2.2
    have z0 : w1.frozen? ⟨Z, 0, none⟩ = false := (row8 D1.out.t).2.1
    have z1 : w1.frozen? ⟨Z, 1, none⟩ = false := (row8 D1.out.t).2.2.1
    have z2 : w1.frozen? ⟨Z, 2, none⟩ = false := (row8 D1.out.t).2.2.2.1
    have z3 : w1.frozen? ⟨Z, 3, none⟩ = false := (row8 D1.out.t).2.2.2.2.1
    have z4 : w1.frozen? ⟨Z, 4, none⟩ = false := (row8 D1.out.t).2.2.2.2.2.1
    have z5 : w1.frozen? ⟨Z, 5, none⟩ = false := (row8 D1.out.t).2.2.2.2.2.2.1
    have z6 : w1.frozen? ⟨Z, 6, none⟩ = false := (row8 D1.out.t).2.2.2.2.2.2.2.1
    have z7 : w1.frozen? ⟨Z, 7, none⟩ = false := (row8 D1.out.t).2.2.2.2.2.2.2.2
    have T := enum_any (fun i => W ≤ i) (W + 1) rA.e 1099511627776 rA.l w1 D1.out.y hWy (HN.out w1 (by have := D1.out.z; have := D1.out.q; omega)) (by decide)
    change Calls _ _ _ _ (fun r w' => r = .returned (.int .i64 ((rA.nv MX : Nat) : Int)) ∧ YS w' _ _ (rA.num MX).e (rA.num MX).l ∧ _) at T
    obtain ⟨x2, hx⟩ : ∃ x, x = rA.nv MX := ⟨_, rfl⟩
    obtain ⟨r2, hs⟩ : ∃ s, s = rA.num MX := ⟨_, rfl⟩
    rw [← hx, ← hs] at T
    have bx2 : x2 ≤ 1099511627776 := by rw [hx]; exact Nat.le_trans (nv_le _ _) (by decide)
    have HX2 := Lib.hid hx
    have HS2 := Lib.hid hs
    have T := Lib.hid T
    clear hx hs
    go_wp2_with fail
    refine T.out.mono ?_
    rintro r v2 ⟨rfl, hy, t⟩
    have E2 := Lib.hid (D1.out.num HW.out hy t)
    clear hy t T c0 c1 c2 c3 c4 c5 c6 c7 z0 z1 z2 z3 z4 z5 z6 z7
    have c0 : v2.cell? ⟨Z, 0, none⟩ = some (.int .i64 0) := (row8 E2.out.t).1.1
    have c1 : v2.cell? ⟨Z, 1, none⟩ = some (.int .i64 0) := (row8 E2.out.t).1.2.1
    have c2 : v2.cell? ⟨Z, 2, none⟩ = some (.int .i64 0) := (row8 E2.out.t).1.2.2.1
    have c3 : v2.cell? ⟨Z, 3, none⟩ = some (.int .i64 0) := (row8 E2.out.t).1.2.2.2.1
    have c4 : v2.cell? ⟨Z, 4, none⟩ = some (.int .i64 0) := (row8 E2.out.t).1.2.2.2.2.1
    have c5 : v2.cell? ⟨Z, 5, none⟩ = some (.bool false) := (row8 E2.out.t).1.2.2.2.2.2.1
    have c6 : v2.cell? ⟨Z, 6, none⟩ = some (.slice none 0 0) := (row8 E2.out.t).1.2.2.2.2.2.2.1
    have c7 : v2.cell? ⟨Z, 7, none⟩ = some (.slice none 0 0) := (row8 E2.out.t).1.2.2.2.2.2.2.2
    have z0 : v2.frozen? ⟨Z, 0, none⟩ = false := (row8 E2.out.t).2.1
    have z1 : v2.frozen? ⟨Z, 1, none⟩ = false := (row8 E2.out.t).2.2.1
    have z2 : v2.frozen? ⟨Z, 2, none⟩ = false := (row8 E2.out.t).2.2.2.1
    have z3 : v2.frozen? ⟨Z, 3, none⟩ = false := (row8 E2.out.t).2.2.2.2.1
    have z4 : v2.frozen? ⟨Z, 4, none⟩ = false := (row8 E2.out.t).2.2.2.2.2.1
    have z5 : v2.frozen? ⟨Z, 5, none⟩ = false := (row8 E2.out.t).2.2.2.2.2.2.1
    have z6 : v2.frozen? ⟨Z, 6, none⟩ = false := (row8 E2.out.t).2.2.2.2.2.2.2.1
    have z7 : v2.frozen? ⟨Z, 7, none⟩ = false := (row8 E2.out.t).2.2.2.2.2.2.2.2
    go_upto_region 6 with fail
    obtain ⟨w2, hw⟩ : ∃ w', w' = v2.setCell ⟨Z, 1, none⟩ (.int .i64 (x2 : Int)) := ⟨_, rfl⟩
    have D2 := Lib.hid (show DSt W Z w w2 r2 none 0 none 0 ⟨0, (x2 : Int), 0, 0, 0, false, [], []⟩ by rw [hw]; exact E2.out.set HW.out 1 _ _ _ _ _ rfl ⟨rfl, rfl, rfl⟩ E2.out.b)
    rw [← hw]
    clear hw E2 c0 c1 c2 c3 c4 c5 c6 c7 z0 z1 z2 z3 z4 z5 z6 z7
    have c0 : w2.cell? ⟨Z, 0, none⟩ = some (.int .i64 0) := (row8 D2.out.t).1.1
    have c1 : w2.cell? ⟨Z, 1, none⟩ = some (.int .i64 (x2 : Int)) := (row8 D2.out.t).1.2.1
    have c2 : w2.cell? ⟨Z, 2, none⟩ = some (.int .i64 0) := (row8 D2.out.t).1.2.2.1
    have c3 : w2.cell? ⟨Z, 3, none⟩ = some (.int .i64 0) := (row8 D2.out.t).1.2.2.2.1
    have c4 : w2.cell? ⟨Z, 4, none⟩ = some (.int .i64 0) := (row8 D2.out.t).1.2.2.2.2.1
    have c5 : w2.cell? ⟨Z, 5, none⟩ = some (.bool false) := (row8 D2.out.t).1.2.2.2.2.2.1
    have c6 : w2.cell? ⟨Z, 6, none⟩ = some (.slice none 0 0) := (row8 D2.out.t).1.2.2.2.2.2.2.1
    have c7 : w2.cell? ⟨Z, 7, none⟩ = some (.slice none 0 0) := (row8 D2.out.t).1.2.2.2.2.2.2.2
    have z0 : w2.frozen? ⟨Z, 0, none⟩ = false := (row8 D2.out.t).2.1
    have z1 : w2.frozen? ⟨Z, 1, none⟩ = false := (row8 D2.out.t).2.2.1
    have z2 : w2.frozen? ⟨Z, 2, none⟩ = false := (row8 D2.out.t).2.2.2.1
    have z3 : w2.frozen? ⟨Z, 3, none⟩ = false := (row8 D2.out.t).2.2.2.2.1
    have z4 : w2.frozen? ⟨Z, 4, none⟩ = false := (row8 D2.out.t).2.2.2.2.2.1
    have z5 : w2.frozen? ⟨Z, 5, none⟩ = false := (row8 D2.out.t).2.2.2.2.2.2.1
    have z6 : w2.frozen? ⟨Z, 6, none⟩ = false := (row8 D2.out.t).2.2.2.2.2.2.2.1
    have z7 : w2.frozen? ⟨Z, 7, none⟩ = false := (row8 D2.out.t).2.2.2.2.2.2.2.2
    have T := enum_any (fun i => W ≤ i) (W + 1) r2.e 1099511627776 r2.l w2 D2.out.y hWy (HN.out w2 (by have := D2.out.z; have := D2.out.q; omega)) (by decide)
    change Calls _ _ _ _ (fun r w' => r = .returned (.int .i64 ((r2.nv MX : Nat) : Int)) ∧ YS w' _ _ (r2.num MX).e (r2.num MX).l ∧ _) at T
    obtain ⟨x3, hx⟩ : ∃ x, x = r2.nv MX := ⟨_, rfl⟩
    obtain ⟨r3, hs⟩ : ∃ s, s = r2.num MX := ⟨_, rfl⟩
    rw [← hx, ← hs] at T
    have bx3 : x3 ≤ 1099511627776 := by rw [hx]; exact Nat.le_trans (nv_le _ _) (by decide)
    have HX3 := Lib.hid hx
    have HS3 := Lib.hid hs
    have T := Lib.hid T
    clear hx hs
    go_wp2_with fail
    refine T.out.mono ?_
    rintro r v3 ⟨rfl, hy, t⟩
    have E3 := Lib.hid (D2.out.num HW.out hy t)
    clear hy t T c0 c1 c2 c3 c4 c5 c6 c7 z0 z1 z2 z3 z4 z5 z6 z7
    have c0 : v3.cell? ⟨Z, 0, none⟩ = some (.int .i64 0) := (row8 E3.out.t).1.1
    have c1 : v3.cell? ⟨Z, 1, none⟩ = some (.int .i64 (x2 : Int)) := (row8 E3.out.t).1.2.1
    have c2 : v3.cell? ⟨Z, 2, none⟩ = some (.int .i64 0) := (row8 E3.out.t).1.2.2.1
    have c3 : v3.cell? ⟨Z, 3, none⟩ = some (.int .i64 0) := (row8 E3.out.t).1.2.2.2.1
    have c4 : v3.cell? ⟨Z, 4, none⟩ = some (.int .i64 0) := (row8 E3.out.t).1.2.2.2.2.1
    have c5 : v3.cell? ⟨Z, 5, none⟩ = some (.bool false) := (row8 E3.out.t).1.2.2.2.2.2.1
    have c6 : v3.cell? ⟨Z, 6, none⟩ = some (.slice none 0 0) := (row8 E3.out.t).1.2.2.2.2.2.2.1
    have c7 : v3.cell? ⟨Z, 7, none⟩ = some (.slice none 0 0) := (row8 E3.out.t).1.2.2.2.2.2.2.2
    have z0 : v3.frozen? ⟨Z, 0, none⟩ = false := (row8 E3.out.t).2.1
    have z1 : v3.frozen? ⟨Z, 1, none⟩ = false := (row8 E3.out.t).2.2.1
    have z2 : v3.frozen? ⟨Z, 2, none⟩ = false := (row8 E3.out.t).2.2.2.1
    have z3 : v3.frozen? ⟨Z, 3, none⟩ = false := (row8 E3.out.t).2.2.2.2.1
    have z4 : v3.frozen? ⟨Z, 4, none⟩ = false := (row8 E3.out.t).2.2.2.2.2.1
    have z5 : v3.frozen? ⟨Z, 5, none⟩ = false := (row8 E3.out.t).2.2.2.2.2.2.1
    have z6 : v3.frozen? ⟨Z, 6, none⟩ = false := (row8 E3.out.t).2.2.2.2.2.2.2.1
    have z7 : v3.frozen? ⟨Z, 7, none⟩ = false := (row8 E3.out.t).2.2.2.2.2.2.2.2
    go_upto_region 10 with fail
    obtain ⟨w3, hw⟩ : ∃ w', w' = v3.setCell ⟨Z, 2, none⟩ (.int .i64 (x3 : Int)) := ⟨_, rfl⟩
    have D3 := Lib.hid (show DSt W Z w w3 r3 none 0 none 0 ⟨0, (x2 : Int), (x3 : Int), 0, 0, false, [], []⟩ by rw [hw]; exact E3.out.set HW.out 2 _ _ _ _ _ rfl ⟨rfl, rfl, rfl⟩ E3.out.b)
    rw [← hw]
    clear hw E3 c0 c1 c2 c3 c4 c5 c6 c7 z0 z1 z2 z3 z4 z5 z6 z7
    have c0 : w3.cell? ⟨Z, 0, none⟩ = some (.int .i64 0) := (row8 D3.out.t).1.1
    have c1 : w3.cell? ⟨Z, 1, none⟩ = some (.int .i64 (x2 : Int)) := (row8 D3.out.t).1.2.1
    have c2 : w3.cell? ⟨Z, 2, none⟩ = some (.int .i64 (x3 : Int)) := (row8 D3.out.t).1.2.2.1
    have c3 : w3.cell? ⟨Z, 3, none⟩ = some (.int .i64 0) := (row8 D3.out.t).1.2.2.2.1
    have c4 : w3.cell? ⟨Z, 4, none⟩ = some (.int .i64 0) := (row8 D3.out.t).1.2.2.2.2.1
    have c5 : w3.cell? ⟨Z, 5, none⟩ = some (.bool false) := (row8 D3.out.t).1.2.2.2.2.2.1
    have c6 : w3.cell? ⟨Z, 6, none⟩ = some (.slice none 0 0) := (row8 D3.out.t).1.2.2.2.2.2.2.1
    have c7 : w3.cell? ⟨Z, 7, none⟩ = some (.slice none 0 0) := (row8 D3.out.t).1.2.2.2.2.2.2.2
    have z0 : w3.frozen? ⟨Z, 0, none⟩ = false := (row8 D3.out.t).2.1
    have z1 : w3.frozen? ⟨Z, 1, none⟩ = false := (row8 D3.out.t).2.2.1
    have z2 : w3.frozen? ⟨Z, 2, none⟩ = false := (row8 D3.out.t).2.2.2.1
    have z3 : w3.frozen? ⟨Z, 3, none⟩ = false := (row8 D3.out.t).2.2.2.2.1
    have z4 : w3.frozen? ⟨Z, 4, none⟩ = false := (row8 D3.out.t).2.2.2.2.2.1
    have z5 : w3.frozen? ⟨Z, 5, none⟩ = false := (row8 D3.out.t).2.2.2.2.2.2.1
    have z6 : w3.frozen? ⟨Z, 6, none⟩ = false := (row8 D3.out.t).2.2.2.2.2.2.2.1
    have z7 : w3.frozen? ⟨Z, 7, none⟩ = false := (row8 D3.out.t).2.2.2.2.2.2.2.2
    have T := enum_any (fun i => W ≤ i) (W + 1) r3.e 1099511627776 r3.l w3 D3.out.y hWy (HN.out w3 (by have := D3.out.z; have := D3.out.q; omega)) (by decide)
    change Calls _ _ _ _ (fun r w' => r = .returned (.int .i64 ((r3.nv MX : Nat) : Int)) ∧ YS w' _ _ (r3.num MX).e (r3.num MX).l ∧ _) at T
    obtain ⟨x4, hx⟩ : ∃ x, x = r3.nv MX := ⟨_, rfl⟩
    obtain ⟨r4, hs⟩ : ∃ s, s = r3.num MX := ⟨_, rfl⟩
    rw [← hx, ← hs] at T
    have bx4 : x4 ≤ 1099511627776 := by rw [hx]; exact Nat.le_trans (nv_le _ _) (by decide)
    have HX4 := Lib.hid hx
    have HS4 := Lib.hid hs
    have T := Lib.hid T
    clear hx hs
    go_wp2_with fail
    refine T.out.mono ?_
    rintro r v4 ⟨rfl, hy, t⟩
    have E4 := Lib.hid (D3.out.num HW.out hy t)
    clear hy t T c0 c1 c2 c3 c4 c5 c6 c7 z0 z1 z2 z3 z4 z5 z6 z7
    have c0 : v4.cell? ⟨Z, 0, none⟩ = some (.int .i64 0) := (row8 E4.out.t).1.1
    have c1 : v4.cell? ⟨Z, 1, none⟩ = some (.int .i64 (x2 : Int)) := (row8 E4.out.t).1.2.1
    have c2 : v4.cell? ⟨Z, 2, none⟩ = some (.int .i64 (x3 : Int)) := (row8 E4.out.t).1.2.2.1
    have c3 : v4.cell? ⟨Z, 3, none⟩ = some (.int .i64 0) := (row8 E4.out.t).1.2.2.2.1
    have c4 : v4.cell? ⟨Z, 4, none⟩ = some (.int .i64 0) := (row8 E4.out.t).1.2.2.2.2.1
    have c5 : v4.cell? ⟨Z, 5, none⟩ = some (.bool false) := (row8 E4.out.t).1.2.2.2.2.2.1
    have c6 : v4.cell? ⟨Z, 6, none⟩ = some (.slice none 0 0) := (row8 E4.out.t).1.2.2.2.2.2.2.1
    have c7 : v4.cell? ⟨Z, 7, none⟩ = some (.slice none 0 0) := (row8 E4.out.t).1.2.2.2.2.2.2.2
    have z0 : v4.frozen? ⟨Z, 0, none⟩ = false := (row8 E4.out.t).2.1
    have z1 : v4.frozen? ⟨Z, 1, none⟩ = false := (row8 E4.out.t).2.2.1
    have z2 : v4.frozen? ⟨Z, 2, none⟩ = false := (row8 E4.out.t).2.2.2.1
    have z3 : v4.frozen? ⟨Z, 3, none⟩ = false := (row8 E4.out.t).2.2.2.2.1
    have z4 : v4.frozen? ⟨Z, 4, none⟩ = false := (row8 E4.out.t).2.2.2.2.2.1
    have z5 : v4.frozen? ⟨Z, 5, none⟩ = false := (row8 E4.out.t).2.2.2.2.2.2.1
    have z6 : v4.frozen? ⟨Z, 6, none⟩ = false := (row8 E4.out.t).2.2.2.2.2.2.2.1
    have z7 : v4.frozen? ⟨Z, 7, none⟩ = false := (row8 E4.out.t).2.2.2.2.2.2.2.2
    go_upto_region 12 with fail
    obtain ⟨w4, hw⟩ : ∃ w', w' = v4.setCell ⟨Z, 3, none⟩ (.int .i64 (x4 : Int)) := ⟨_, rfl⟩
    have D4 := Lib.hid (show DSt W Z w w4 r4 none 0 none 0 ⟨0, (x2 : Int), (x3 : Int), (x4 : Int), 0, false, [], []⟩ by rw [hw]; exact E4.out.set HW.out 3 _ _ _ _ _ rfl ⟨rfl, rfl, rfl⟩ E4.out.b)
    rw [← hw]
    clear hw E4 c0 c1 c2 c3 c4 c5 c6 c7 z0 z1 z2 z3 z4 z5 z6 z7
    have c0 : w4.cell? ⟨Z, 0, none⟩ = some (.int .i64 0) := (row8 D4.out.t).1.1
    have c1 : w4.cell? ⟨Z, 1, none⟩ = some (.int .i64 (x2 : Int)) := (row8 D4.out.t).1.2.1
    have c2 : w4.cell? ⟨Z, 2, none⟩ = some (.int .i64 (x3 : Int)) := (row8 D4.out.t).1.2.2.1
    have c3 : w4.cell? ⟨Z, 3, none⟩ = some (.int .i64 (x4 : Int)) := (row8 D4.out.t).1.2.2.2.1
    have c4 : w4.cell? ⟨Z, 4, none⟩ = some (.int .i64 0) := (row8 D4.out.t).1.2.2.2.2.1
    have c5 : w4.cell? ⟨Z, 5, none⟩ = some (.bool false) := (row8 D4.out.t).1.2.2.2.2.2.1
    have c6 : w4.cell? ⟨Z, 6, none⟩ = some (.slice none 0 0) := (row8 D4.out.t).1.2.2.2.2.2.2.1
    have c7 : w4.cell? ⟨Z, 7, none⟩ = some (.slice none 0 0) := (row8 D4.out.t).1.2.2.2.2.2.2.2
    have z0 : w4.frozen? ⟨Z, 0, none⟩ = false := (row8 D4.out.t).2.1
    have z1 : w4.frozen? ⟨Z, 1, none⟩ = false := (row8 D4.out.t).2.2.1
    have z2 : w4.frozen? ⟨Z, 2, none⟩ = false := (row8 D4.out.t).2.2.2.1
    have z3 : w4.frozen? ⟨Z, 3, none⟩ = false := (row8 D4.out.t).2.2.2.2.1
    have z4 : w4.frozen? ⟨Z, 4, none⟩ = false := (row8 D4.out.t).2.2.2.2.2.1
    have z5 : w4.frozen? ⟨Z, 5, none⟩ = false := (row8 D4.out.t).2.2.2.2.2.2.1
    have z6 : w4.frozen? ⟨Z, 6, none⟩ = false := (row8 D4.out.t).2.2.2.2.2.2.2.1
    have z7 : w4.frozen? ⟨Z, 7, none⟩ = false := (row8 D4.out.t).2.2.2.2.2.2.2.2
    have HEE := Lib.hid (show r4.e = (s1 b).e ∧ r4.e ≠ 0 by
      have h1 : rA.e ≠ 0 := hA0
      have h2 : r2.e = rA.e := by rw [HS2.out]; exact (num_err h1).1
      have h3 : r3.e = r2.e := by rw [HS3.out]; exact (num_err (by omega)).1
      have h4 : r4.e = r3.e := by rw [HS4.out]; exact (num_err (by omega)).1
      rw [← HRA.out]; omega)
    have FIN := Lib.hid (show rdE b = r4.e ∧ rdV b = zL by
      have e : rdE b = r4.e := by unfold rdE; rw [if_pos (by rw [← HEE.out.1]; exact HEE.out.2), HEE.out.1]
      exact ⟨e, by unfold rdV; rw [e, if_pos HEE.out.2]⟩)
    obtain ⟨Ay, cy, ny, ⟨y0, y1⟩, ⟨q0, q1⟩, hny, hyr⟩ := D4.out.ys
    clear t1
    obtain ⟨h1, h2⟩ := FIN.out
    have he : r4.e ≠ 0 := HEE.out.2
    have HRE := Lib.hid h1
    have HRV := Lib.hid h2
    have t1 : ((r4.e : Int) == 0) = false := by rw [beq_eq_false_iff_ne]; omega
    have t2 : ((r4.e : Int) != 0) = true := by simp; omega
    have HRe := Lib.hid D4.out.r
    have HTe := Lib.hid D4.out.n
    clear hny he h1 h2
    go_upto_region 26 with fail
    refine wp_region_rel 130 Stp ((.one ?_) :: (.one ?_) :: (.one ?_) :: (.one ?_) :: (.one ?_) :: (.rel (fun _ _ => True)) :: (.one ?_) :: []) (by kernel_rfl) (by kernel_rfl) rfl (by kernel_rfl) Stp.refl Stp.trans ⟨fun _ _ _ _ _ => trivial, trivial⟩ ?main
    case main =>
      iterate 4
        refine wpR_one (A' := ?_) Stp.refl (by rfl) _ rfl 130 (by rfl) (by rfl) ?_ ?_ ?_
        rotate_left 1
        · simp only [Act.put, List.setIfInBounds_toArray, List.set_cons_zero, List.set_cons_succ]; rfl
        · intro w1 hs hf K hK
          go_big_quiet_op
          first
            | go_big_quiet_on
            | (refine ⟨_, fun _ _ => rfl, ?_⟩; go_big_quiet_on)
          rfl
      refine wpR_one (A' := ?_) Stp.refl (by rfl) _ rfl 130 (by rfl) (by rfl) ?_ ?_ ?_
      rotate_left 1
      · simp only [Act.put, List.setIfInBounds_toArray, List.set_cons_zero, List.set_cons_succ]; rfl
      · intro w1 hs hf K hK
        refine cls_load_cell 3 (.tmp 127) rfl ⟨W + 1, 1, none⟩ rfl (.int .i64 (r4.e : Int)) (fun w h => by simp [go_sem, h]) (fun w2 h2 => (Turn.of_below (stp_start (Stp.trans _ _ _ hs h2) (Below.refl _ _))).cell y1 (fun h => h)) ?_
        refine hK _ ?_
        simp only [Act.put, List.setIfInBounds_toArray, List.set_cons_zero, List.set_cons_succ]
        rfl
      refine wpR_rel (A' := ?_) (by rfl) ?_ ?_ ?_
      · intro w1 hs hf
        exact does_store_zl (.tmp 2) (.tmp 124) rfl rfl rfl ((show LBx _ W none 0 none 0 zL from HRe.out).turn (Turn.of_below (stp_start hs (Below.refl _ _))) (fun h => h))
      rotate_left 1
      · intro x
        simp only [Act.put, List.setIfInBounds_toArray, List.set_cons_zero, List.set_cons_succ]; rfl
      intro x26
      iterate 1
        refine wpR_one (A' := ?_) Stp.refl (by rfl) _ rfl 130 (by rfl) (by rfl) ?_ ?_ ?_
        rotate_left 1
        · simp only [Act.put, List.setIfInBounds_toArray, List.set_cons_zero, List.set_cons_succ]; rfl
        · intro w1 hs hf K hK
          go_big_quiet_op
          first
            | go_big_quiet_on
            | (refine ⟨_, fun _ _ => rfl, ?_⟩; go_big_quiet_on)
          rfl
      intro w9 hs hf
      have T9 := Lib.hid (Turn.of_below (stp_start hs (Below.refl _ _)))
      clear hs hf
      go_wp2_with fail
      refine bodyPost_ret (v := .tuple #[.agg ZLt, .int .i64 (r4.e : Int)]) ?_ rfl ⟨none, 0, none, 0, by (rw [HRV.out, HRE.out] <;> rfl), by rw [HRV.out]; exact zL_at _ _, HTe.out.trans T9.out (fun _ _ h => h)⟩
      exact results_lt Try.results16 _ _ W _ _ rfl rfl (T9.out.heap HRe.out (fun h => h)) rfl
  have y1' : w1.cell? ⟨W + 1, 1, none⟩ = some (.int .i64 0) := by rw [y1, hA0]; rfl
  clear y1
  have hks : K = 0 ∨ K = 1 ∨ K = 2 ∨ K = 3 ∨ K = 4 ∨ K = 5 := by omega
  rcases hks with rfl | rfl | rfl | rfl | rfl | rfl
  · have HRE := Lib.hid (show rdE b = 25 by unfold rdE; rw [if_neg (by rw [← HRA.out]; omega), if_pos HK.out.symm])
    have HRV := Lib.hid (show rdV b = zL by unfold rdV; rw [HRE.out, if_pos (by decide)])
    have HRe := Lib.hid D1.out.r
    have HTe := Lib.hid D1.out.n
    have D1 := Lib.hid (show DSt W Z w w1 rA none 0 none 0 ⟨0, 0, 0, 0, 0, false, [], []⟩ from D1.out)
    have c0 : w1.cell? ⟨Z, 0, none⟩ = some (.int .i64 0) := (row8 D1.out.t).1.1
    have c1 : w1.cell? ⟨Z, 1, none⟩ = some (.int .i64 0) := (row8 D1.out.t).1.2.1
    have c2 : w1.cell? ⟨Z, 2, none⟩ = some (.int .i64 0) := (row8 D1.out.t).1.2.2.1
    have c3 : w1.cell? ⟨Z, 3, none⟩ = some (.int .i64 0) := (row8 D1.out.t).1.2.2.2.1
    have c4 : w1.cell? ⟨Z, 4, none⟩ = some (.int .i64 0) := (row8 D1.out.t).1.2.2.2.2.1
    have c5 : w1.cell? ⟨Z, 5, none⟩ = some (.bool false) := (row8 D1.out.t).1.2.2.2.2.2.1
    have c6 : w1.cell? ⟨Z, 6, none⟩ = some (.slice none 0 0) := (row8 D1.out.t).1.2.2.2.2.2.2.1
    have c7 : w1.cell? ⟨Z, 7, none⟩ = some (.slice none 0 0) := (row8 D1.out.t).1.2.2.2.2.2.2.2
    have z0 : w1.frozen? ⟨Z, 0, none⟩ = false := (row8 D1.out.t).2.1
    have z1 : w1.frozen? ⟨Z, 1, none⟩ = false := (row8 D1.out.t).2.2.1
    have z2 : w1.frozen? ⟨Z, 2, none⟩ = false := (row8 D1.out.t).2.2.2.1
    have z3 : w1.frozen? ⟨Z, 3, none⟩ = false := (row8 D1.out.t).2.2.2.2.1
    have z4 : w1.frozen? ⟨Z, 4, none⟩ = false := (row8 D1.out.t).2.2.2.2.2.1
    have z5 : w1.frozen? ⟨Z, 5, none⟩ = false := (row8 D1.out.t).2.2.2.2.2.2.1
    have z6 : w1.frozen? ⟨Z, 6, none⟩ = false := (row8 D1.out.t).2.2.2.2.2.2.2.1
    have z7 : w1.frozen? ⟨Z, 7, none⟩ = false := (row8 D1.out.t).2.2.2.2.2.2.2.2
    obtain ⟨⟨d0, d1, d2, d3, d4, d5, d6, d7⟩, u0, u1, u2, u3, u4, u5, u6, u7⟩ := row8 HRe.out
    go_wp2_with fail
    have h5 := set8 HRe.out (.int .i64 0) (.int .i64 0) (.int .i64 0) (.int .i64 0) (.int .i64 0) (.bool false) (.slice none 0 0) (.slice none 0 0)
    refine bodyPost_ret (v := .tuple #[.agg #[.int .i64 0, .int .i64 0, .int .i64 0, .int .i64 0, .int .i64 0, .bool false, .slice none 0 0, .slice none 0 0], .int .i64 25]) ?_ rfl ⟨none, 0, none, 0, by rw [HRV.out, HRE.out]; rfl, by rw [HRV.out]; exact zL_at _ _, HTe.out.trans h5.2 (fun i hi e => by have e : i = W := e; have := HW.out; omega)⟩
    exact results_lt Try.results16 _ _ W _ _ rfl rfl h5.1 rfl
  · have D1 := Lib.hid (show DSt W Z w w1 rA none 0 none 0 ⟨1, 0, 0, 0, 0, false, [], []⟩ from D1.out)
    have c0 : w1.cell? ⟨Z, 0, none⟩ = some (.int .i64 1) := (row8 D1.out.t).1.1
    have c1 : w1.cell? ⟨Z, 1, none⟩ = some (.int .i64 0) := (row8 D1.out.t).1.2.1
    have c2 : w1.cell? ⟨Z, 2, none⟩ = some (.int .i64 0) := (row8 D1.out.t).1.2.2.1
    have c3 : w1.cell? ⟨Z, 3, none⟩ = some (.int .i64 0) := (row8 D1.out.t).1.2.2.2.1
    have c4 : w1.cell? ⟨Z, 4, none⟩ = some (.int .i64 0) := (row8 D1.out.t).1.2.2.2.2.1
    have c5 : w1.cell? ⟨Z, 5, none⟩ = some (.bool false) := (row8 D1.out.t).1.2.2.2.2.2.1
    have c6 : w1.cell? ⟨Z, 6, none⟩ = some (.slice none 0 0) := (row8 D1.out.t).1.2.2.2.2.2.2.1
    have c7 : w1.cell? ⟨Z, 7, none⟩ = some (.slice none 0 0) := (row8 D1.out.t).1.2.2.2.2.2.2.2
    have z0 : w1.frozen? ⟨Z, 0, none⟩ = false := (row8 D1.out.t).2.1
    have z1 : w1.frozen? ⟨Z, 1, none⟩ = false := (row8 D1.out.t).2.2.1
    have z2 : w1.frozen? ⟨Z, 2, none⟩ = false := (row8 D1.out.t).2.2.2.1
    have z3 : w1.frozen? ⟨Z, 3, none⟩ = false := (row8 D1.out.t).2.2.2.2.1
    have z4 : w1.frozen? ⟨Z, 4, none⟩ = false := (row8 D1.out.t).2.2.2.2.2.1
    have z5 : w1.frozen? ⟨Z, 5, none⟩ = false := (row8 D1.out.t).2.2.2.2.2.2.1
    have z6 : w1.frozen? ⟨Z, 6, none⟩ = false := (row8 D1.out.t).2.2.2.2.2.2.2.1
    have z7 : w1.frozen? ⟨Z, 7, none⟩ = false := (row8 D1.out.t).2.2.2.2.2.2.2.2
    have T := enum_any (fun i => W ≤ i) (W + 1) rA.e 1099511627776 rA.l w1 D1.out.y hWy (HN.out w1 (by have := D1.out.z; have := D1.out.q; omega)) (by decide)
    change Calls _ _ _ _ (fun r w' => r = .returned (.int .i64 ((rA.nv MX : Nat) : Int)) ∧ YS w' _ _ (rA.num MX).e (rA.num MX).l ∧ _) at T
    obtain ⟨x2, hx⟩ : ∃ x, x = rA.nv MX := ⟨_, rfl⟩
    obtain ⟨r2, hs⟩ : ∃ s, s = rA.num MX := ⟨_, rfl⟩
    rw [← hx, ← hs] at T
    have bx2 : x2 ≤ 1099511627776 := by rw [hx]; exact Nat.le_trans (nv_le _ _) (by decide)
    have HX2 := Lib.hid hx
    have HS2 := Lib.hid hs
    have T := Lib.hid T
    clear hx hs
    go_wp2_with fail
    refine T.out.mono ?_
    rintro r v2 ⟨rfl, hy, t⟩
    have E2 := Lib.hid (D1.out.num HW.out hy t)
    clear hy t T c0 c1 c2 c3 c4 c5 c6 c7 z0 z1 z2 z3 z4 z5 z6 z7
    have c0 : v2.cell? ⟨Z, 0, none⟩ = some (.int .i64 1) := (row8 E2.out.t).1.1
    have c1 : v2.cell? ⟨Z, 1, none⟩ = some (.int .i64 0) := (row8 E2.out.t).1.2.1
    have c2 : v2.cell? ⟨Z, 2, none⟩ = some (.int .i64 0) := (row8 E2.out.t).1.2.2.1
    have c3 : v2.cell? ⟨Z, 3, none⟩ = some (.int .i64 0) := (row8 E2.out.t).1.2.2.2.1
    have c4 : v2.cell? ⟨Z, 4, none⟩ = some (.int .i64 0) := (row8 E2.out.t).1.2.2.2.2.1
    have c5 : v2.cell? ⟨Z, 5, none⟩ = some (.bool false) := (row8 E2.out.t).1.2.2.2.2.2.1
    have c6 : v2.cell? ⟨Z, 6, none⟩ = some (.slice none 0 0) := (row8 E2.out.t).1.2.2.2.2.2.2.1
    have c7 : v2.cell? ⟨Z, 7, none⟩ = some (.slice none 0 0) := (row8 E2.out.t).1.2.2.2.2.2.2.2
    have z0 : v2.frozen? ⟨Z, 0, none⟩ = false := (row8 E2.out.t).2.1
    have z1 : v2.frozen? ⟨Z, 1, none⟩ = false := (row8 E2.out.t).2.2.1
    have z2 : v2.frozen? ⟨Z, 2, none⟩ = false := (row8 E2.out.t).2.2.2.1
    have z3 : v2.frozen? ⟨Z, 3, none⟩ = false := (row8 E2.out.t).2.2.2.2.1
    have z4 : v2.frozen? ⟨Z, 4, none⟩ = false := (row8 E2.out.t).2.2.2.2.2.1
    have z5 : v2.frozen? ⟨Z, 5, none⟩ = false := (row8 E2.out.t).2.2.2.2.2.2.1
    have z6 : v2.frozen? ⟨Z, 6, none⟩ = false := (row8 E2.out.t).2.2.2.2.2.2.2.1
    have z7 : v2.frozen? ⟨Z, 7, none⟩ = false := (row8 E2.out.t).2.2.2.2.2.2.2.2
    go_upto_region 6 with fail
    obtain ⟨w2, hw⟩ : ∃ w', w' = v2.setCell ⟨Z, 1, none⟩ (.int .i64 (x2 : Int)) := ⟨_, rfl⟩
    have D2 := Lib.hid (show DSt W Z w w2 r2 none 0 none 0 ⟨1, (x2 : Int), 0, 0, 0, false, [], []⟩ by rw [hw]; exact E2.out.set HW.out 1 _ _ _ _ _ rfl ⟨rfl, rfl, rfl⟩ E2.out.b)
    rw [← hw]
    clear hw E2 c0 c1 c2 c3 c4 c5 c6 c7 z0 z1 z2 z3 z4 z5 z6 z7
    have c0 : w2.cell? ⟨Z, 0, none⟩ = some (.int .i64 1) := (row8 D2.out.t).1.1
    have c1 : w2.cell? ⟨Z, 1, none⟩ = some (.int .i64 (x2 : Int)) := (row8 D2.out.t).1.2.1
    have c2 : w2.cell? ⟨Z, 2, none⟩ = some (.int .i64 0) := (row8 D2.out.t).1.2.2.1
    have c3 : w2.cell? ⟨Z, 3, none⟩ = some (.int .i64 0) := (row8 D2.out.t).1.2.2.2.1
    have c4 : w2.cell? ⟨Z, 4, none⟩ = some (.int .i64 0) := (row8 D2.out.t).1.2.2.2.2.1
    have c5 : w2.cell? ⟨Z, 5, none⟩ = some (.bool false) := (row8 D2.out.t).1.2.2.2.2.2.1
    have c6 : w2.cell? ⟨Z, 6, none⟩ = some (.slice none 0 0) := (row8 D2.out.t).1.2.2.2.2.2.2.1
    have c7 : w2.cell? ⟨Z, 7, none⟩ = some (.slice none 0 0) := (row8 D2.out.t).1.2.2.2.2.2.2.2
    have z0 : w2.frozen? ⟨Z, 0, none⟩ = false := (row8 D2.out.t).2.1
    have z1 : w2.frozen? ⟨Z, 1, none⟩ = false := (row8 D2.out.t).2.2.1
    have z2 : w2.frozen? ⟨Z, 2, none⟩ = false := (row8 D2.out.t).2.2.2.1
    have z3 : w2.frozen? ⟨Z, 3, none⟩ = false := (row8 D2.out.t).2.2.2.2.1
    have z4 : w2.frozen? ⟨Z, 4, none⟩ = false := (row8 D2.out.t).2.2.2.2.2.1
    have z5 : w2.frozen? ⟨Z, 5, none⟩ = false := (row8 D2.out.t).2.2.2.2.2.2.1
    have z6 : w2.frozen? ⟨Z, 6, none⟩ = false := (row8 D2.out.t).2.2.2.2.2.2.2.1
    have z7 : w2.frozen? ⟨Z, 7, none⟩ = false := (row8 D2.out.t).2.2.2.2.2.2.2.2
    have T := enum_any (fun i => W ≤ i) (W + 1) r2.e 1099511627776 r2.l w2 D2.out.y hWy (HN.out w2 (by have := D2.out.z; have := D2.out.q; omega)) (by decide)
    change Calls _ _ _ _ (fun r w' => r = .returned (.int .i64 ((r2.nv MX : Nat) : Int)) ∧ YS w' _ _ (r2.num MX).e (r2.num MX).l ∧ _) at T
    obtain ⟨x3, hx⟩ : ∃ x, x = r2.nv MX := ⟨_, rfl⟩
    obtain ⟨r3, hs⟩ : ∃ s, s = r2.num MX := ⟨_, rfl⟩
    rw [← hx, ← hs] at T
    have bx3 : x3 ≤ 1099511627776 := by rw [hx]; exact Nat.le_trans (nv_le _ _) (by decide)
    have HX3 := Lib.hid hx
    have HS3 := Lib.hid hs
    have T := Lib.hid T
    clear hx hs
    go_wp2_with fail
    refine T.out.mono ?_
    rintro r v3 ⟨rfl, hy, t⟩
    have E3 := Lib.hid (D2.out.num HW.out hy t)
    clear hy t T c0 c1 c2 c3 c4 c5 c6 c7 z0 z1 z2 z3 z4 z5 z6 z7
    have c0 : v3.cell? ⟨Z, 0, none⟩ = some (.int .i64 1) := (row8 E3.out.t).1.1
    have c1 : v3.cell? ⟨Z, 1, none⟩ = some (.int .i64 (x2 : Int)) := (row8 E3.out.t).1.2.1
    have c2 : v3.cell? ⟨Z, 2, none⟩ = some (.int .i64 0) := (row8 E3.out.t).1.2.2.1
    have c3 : v3.cell? ⟨Z, 3, none⟩ = some (.int .i64 0) := (row8 E3.out.t).1.2.2.2.1
    have c4 : v3.cell? ⟨Z, 4, none⟩ = some (.int .i64 0) := (row8 E3.out.t).1.2.2.2.2.1
    have c5 : v3.cell? ⟨Z, 5, none⟩ = some (.bool false) := (row8 E3.out.t).1.2.2.2.2.2.1
    have c6 : v3.cell? ⟨Z, 6, none⟩ = some (.slice none 0 0) := (row8 E3.out.t).1.2.2.2.2.2.2.1
    have c7 : v3.cell? ⟨Z, 7, none⟩ = some (.slice none 0 0) := (row8 E3.out.t).1.2.2.2.2.2.2.2
    have z0 : v3.frozen? ⟨Z, 0, none⟩ = false := (row8 E3.out.t).2.1
    have z1 : v3.frozen? ⟨Z, 1, none⟩ = false := (row8 E3.out.t).2.2.1
    have z2 : v3.frozen? ⟨Z, 2, none⟩ = false := (row8 E3.out.t).2.2.2.1
    have z3 : v3.frozen? ⟨Z, 3, none⟩ = false := (row8 E3.out.t).2.2.2.2.1
    have z4 : v3.frozen? ⟨Z, 4, none⟩ = false := (row8 E3.out.t).2.2.2.2.2.1
    have z5 : v3.frozen? ⟨Z, 5, none⟩ = false := (row8 E3.out.t).2.2.2.2.2.2.1
    have z6 : v3.frozen? ⟨Z, 6, none⟩ = false := (row8 E3.out.t).2.2.2.2.2.2.2.1
    have z7 : v3.frozen? ⟨Z, 7, none⟩ = false := (row8 E3.out.t).2.2.2.2.2.2.2.2
    go_upto_region 10 with fail
    obtain ⟨w3, hw⟩ : ∃ w', w' = v3.setCell ⟨Z, 2, none⟩ (.int .i64 (x3 : Int)) := ⟨_, rfl⟩
    have D3 := Lib.hid (show DSt W Z w w3 r3 none 0 none 0 ⟨1, (x2 : Int), (x3 : Int), 0, 0, false, [], []⟩ by rw [hw]; exact E3.out.set HW.out 2 _ _ _ _ _ rfl ⟨rfl, rfl, rfl⟩ E3.out.b)
    rw [← hw]
    clear hw E3 c0 c1 c2 c3 c4 c5 c6 c7 z0 z1 z2 z3 z4 z5 z6 z7
    have c0 : w3.cell? ⟨Z, 0, none⟩ = some (.int .i64 1) := (row8 D3.out.t).1.1
    have c1 : w3.cell? ⟨Z, 1, none⟩ = some (.int .i64 (x2 : Int)) := (row8 D3.out.t).1.2.1
    have c2 : w3.cell? ⟨Z, 2, none⟩ = some (.int .i64 (x3 : Int)) := (row8 D3.out.t).1.2.2.1
    have c3 : w3.cell? ⟨Z, 3, none⟩ = some (.int .i64 0) := (row8 D3.out.t).1.2.2.2.1
    have c4 : w3.cell? ⟨Z, 4, none⟩ = some (.int .i64 0) := (row8 D3.out.t).1.2.2.2.2.1
    have c5 : w3.cell? ⟨Z, 5, none⟩ = some (.bool false) := (row8 D3.out.t).1.2.2.2.2.2.1
    have c6 : w3.cell? ⟨Z, 6, none⟩ = some (.slice none 0 0) := (row8 D3.out.t).1.2.2.2.2.2.2.1
    have c7 : w3.cell? ⟨Z, 7, none⟩ = some (.slice none 0 0) := (row8 D3.out.t).1.2.2.2.2.2.2.2
    have z0 : w3.frozen? ⟨Z, 0, none⟩ = false := (row8 D3.out.t).2.1
    have z1 : w3.frozen? ⟨Z, 1, none⟩ = false := (row8 D3.out.t).2.2.1
    have z2 : w3.frozen? ⟨Z, 2, none⟩ = false := (row8 D3.out.t).2.2.2.1
    have z3 : w3.frozen? ⟨Z, 3, none⟩ = false := (row8 D3.out.t).2.2.2.2.1
    have z4 : w3.frozen? ⟨Z, 4, none⟩ = false := (row8 D3.out.t).2.2.2.2.2.1
    have z5 : w3.frozen? ⟨Z, 5, none⟩ = false := (row8 D3.out.t).2.2.2.2.2.2.1
    have z6 : w3.frozen? ⟨Z, 6, none⟩ = false := (row8 D3.out.t).2.2.2.2.2.2.2.1
    have z7 : w3.frozen? ⟨Z, 7, none⟩ = false := (row8 D3.out.t).2.2.2.2.2.2.2.2
    have T := enum_any (fun i => W ≤ i) (W + 1) r3.e 1099511627776 r3.l w3 D3.out.y hWy (HN.out w3 (by have := D3.out.z; have := D3.out.q; omega)) (by decide)
    change Calls _ _ _ _ (fun r w' => r = .returned (.int .i64 ((r3.nv MX : Nat) : Int)) ∧ YS w' _ _ (r3.num MX).e (r3.num MX).l ∧ _) at T
    obtain ⟨x4, hx⟩ : ∃ x, x = r3.nv MX := ⟨_, rfl⟩
    obtain ⟨r4, hs⟩ : ∃ s, s = r3.num MX := ⟨_, rfl⟩
    rw [← hx, ← hs] at T
    have bx4 : x4 ≤ 1099511627776 := by rw [hx]; exact Nat.le_trans (nv_le _ _) (by decide)
    have HX4 := Lib.hid hx
    have HS4 := Lib.hid hs
    have T := Lib.hid T
    clear hx hs
    go_wp2_with fail
    refine T.out.mono ?_
    rintro r v4 ⟨rfl, hy, t⟩
    have E4 := Lib.hid (D3.out.num HW.out hy t)
    clear hy t T c0 c1 c2 c3 c4 c5 c6 c7 z0 z1 z2 z3 z4 z5 z6 z7
    have c0 : v4.cell? ⟨Z, 0, none⟩ = some (.int .i64 1) := (row8 E4.out.t).1.1
    have c1 : v4.cell? ⟨Z, 1, none⟩ = some (.int .i64 (x2 : Int)) := (row8 E4.out.t).1.2.1
    have c2 : v4.cell? ⟨Z, 2, none⟩ = some (.int .i64 (x3 : Int)) := (row8 E4.out.t).1.2.2.1
    have c3 : v4.cell? ⟨Z, 3, none⟩ = some (.int .i64 0) := (row8 E4.out.t).1.2.2.2.1
    have c4 : v4.cell? ⟨Z, 4, none⟩ = some (.int .i64 0) := (row8 E4.out.t).1.2.2.2.2.1
    have c5 : v4.cell? ⟨Z, 5, none⟩ = some (.bool false) := (row8 E4.out.t).1.2.2.2.2.2.1
    have c6 : v4.cell? ⟨Z, 6, none⟩ = some (.slice none 0 0) := (row8 E4.out.t).1.2.2.2.2.2.2.1
    have c7 : v4.cell? ⟨Z, 7, none⟩ = some (.slice none 0 0) := (row8 E4.out.t).1.2.2.2.2.2.2.2
    have z0 : v4.frozen? ⟨Z, 0, none⟩ = false := (row8 E4.out.t).2.1
    have z1 : v4.frozen? ⟨Z, 1, none⟩ = false := (row8 E4.out.t).2.2.1
    have z2 : v4.frozen? ⟨Z, 2, none⟩ = false := (row8 E4.out.t).2.2.2.1
    have z3 : v4.frozen? ⟨Z, 3, none⟩ = false := (row8 E4.out.t).2.2.2.2.1
    have z4 : v4.frozen? ⟨Z, 4, none⟩ = false := (row8 E4.out.t).2.2.2.2.2.1
    have z5 : v4.frozen? ⟨Z, 5, none⟩ = false := (row8 E4.out.t).2.2.2.2.2.2.1
    have z6 : v4.frozen? ⟨Z, 6, none⟩ = false := (row8 E4.out.t).2.2.2.2.2.2.2.1
    have z7 : v4.frozen? ⟨Z, 7, none⟩ = false := (row8 E4.out.t).2.2.2.2.2.2.2.2
    go_upto_region 12 with fail
    obtain ⟨w4, hw⟩ : ∃ w', w' = v4.setCell ⟨Z, 3, none⟩ (.int .i64 (x4 : Int)) := ⟨_, rfl⟩
    have D4 := Lib.hid (show DSt W Z w w4 r4 none 0 none 0 ⟨1, (x2 : Int), (x3 : Int), (x4 : Int), 0, false, [], []⟩ by rw [hw]; exact E4.out.set HW.out 3 _ _ _ _ _ rfl ⟨rfl, rfl, rfl⟩ E4.out.b)
    rw [← hw]
    clear hw E4 c0 c1 c2 c3 c4 c5 c6 c7 z0 z1 z2 z3 z4 z5 z6 z7
    have c0 : w4.cell? ⟨Z, 0, none⟩ = some (.int .i64 1) := (row8 D4.out.t).1.1
    have c1 : w4.cell? ⟨Z, 1, none⟩ = some (.int .i64 (x2 : Int)) := (row8 D4.out.t).1.2.1
    have c2 : w4.cell? ⟨Z, 2, none⟩ = some (.int .i64 (x3 : Int)) := (row8 D4.out.t).1.2.2.1
    have c3 : w4.cell? ⟨Z, 3, none⟩ = some (.int .i64 (x4 : Int)) := (row8 D4.out.t).1.2.2.2.1
    have c4 : w4.cell? ⟨Z, 4, none⟩ = some (.int .i64 0) := (row8 D4.out.t).1.2.2.2.2.1
    have c5 : w4.cell? ⟨Z, 5, none⟩ = some (.bool false) := (row8 D4.out.t).1.2.2.2.2.2.1
    have c6 : w4.cell? ⟨Z, 6, none⟩ = some (.slice none 0 0) := (row8 D4.out.t).1.2.2.2.2.2.2.1
    have c7 : w4.cell? ⟨Z, 7, none⟩ = some (.slice none 0 0) := (row8 D4.out.t).1.2.2.2.2.2.2.2
    have z0 : w4.frozen? ⟨Z, 0, none⟩ = false := (row8 D4.out.t).2.1
    have z1 : w4.frozen? ⟨Z, 1, none⟩ = false := (row8 D4.out.t).2.2.1
    have z2 : w4.frozen? ⟨Z, 2, none⟩ = false := (row8 D4.out.t).2.2.2.1
    have z3 : w4.frozen? ⟨Z, 3, none⟩ = false := (row8 D4.out.t).2.2.2.2.1
    have z4 : w4.frozen? ⟨Z, 4, none⟩ = false := (row8 D4.out.t).2.2.2.2.2.1
    have z5 : w4.frozen? ⟨Z, 5, none⟩ = false := (row8 D4.out.t).2.2.2.2.2.2.1
    have z6 : w4.frozen? ⟨Z, 6, none⟩ = false := (row8 D4.out.t).2.2.2.2.2.2.2.1
    have z7 : w4.frozen? ⟨Z, 7, none⟩ = false := (row8 D4.out.t).2.2.2.2.2.2.2.2
    have FIN := Lib.hid (rd_fin (b := b) (s := r4) (lt := ⟨1, (x2 : Int), (x3 : Int), (x4 : Int), 0, false, [], []⟩) (by rw [← HRA.out]; exact hA0) (by rw [← HK.out]; decide) (by show bodS (k1 b) (s2 b) = r4; rw [← HK.out, show s2 b = (s1 b).num MX from rfl, ← HRA.out, ← HS2.out]; simp only [bodS]; simp [HS4.out, HS3.out]) (by rw [← HK.out, show s2 b = (s1 b).num MX from rfl, ← HRA.out, ← HS2.out, ← HX2.out]; simp only [bodV]; simp [HX4.out, HX3.out, HS4.out, HS3.out]))
    obtain ⟨Ay, cy, ny, ⟨y0, y1⟩, ⟨q0, q1⟩, hny, hyr⟩ := D4.out.ys
    have HYR := Lib.hid hyr
    clear hyr
    by_cases he : r4.e = 0
    · have hny := hny he
      have y1' : w4.cell? ⟨W + 1, 1, none⟩ = some (.int .i64 0) := by rw [y1, he]; rfl
      clear y1
      by_cases hl : r4.l = []
      · obtain ⟨h1, h2⟩ := FIN.out.1 he hl
        have HRE := Lib.hid h1
        have HRV := Lib.hid h2
        have tn : decide (0 < (ny : Int)) = false := by rw [decide_eq_false_iff_not, hny, hl]; simp
        have tn2 : decide (0 < ny) = false := by rw [decide_eq_false_iff_not, hny, hl]; simp
        clear hny he hl h1 h2
        obtain ⟨⟨d0, d1, d2, d3, d4, d5, d6, d7⟩, u0, u1, u2, u3, u4, u5, u6, u7⟩ := row8 D4.out.r
        go_wp2_with fail
        have h5 := set8 D4.out.r (.int .i64 1) (.int .i64 (x2 : Int)) (.int .i64 (x3 : Int)) (.int .i64 (x4 : Int)) (.int .i64 0) (.bool false) (.slice none 0 0) (.slice none 0 0)
        refine bodyPost_ret (v := .tuple #[.agg #[.int .i64 1, .int .i64 (x2 : Int), .int .i64 (x3 : Int), .int .i64 (x4 : Int), .int .i64 0, .bool false, .slice none 0 0, .slice none 0 0], .int .i64 0]) ?_ rfl ⟨none, 0, none, 0, by rw [HRV.out, HRE.out]; rfl, by rw [HRV.out]; exact D4.out.ltN (by refine ⟨?_, ?_, ?_, ?_, ?_⟩ <;> (unfold i64R; dsimp only; omega)) (Nat.zero_le _) _ (h5.2.mono (fun _ _ h => .inl h)), D4.out.n.trans h5.2 (fun i hi e => by have e : i = W := e; have := HW.out; omega)⟩
        exact results_lt Try.results16 _ _ W _ _ rfl rfl h5.1 rfl
      · obtain ⟨h1, h2⟩ := FIN.out.2.1 he hl
        have HRE := Lib.hid h1
        have HRV := Lib.hid h2
        have hlp : 0 < r4.l.length := List.length_pos_iff.2 hl
        have tn : decide (0 < (ny : Int)) = true := by rw [decide_eq_true_eq, hny]; omega
        have tn2 : decide (0 < ny) = true := by rw [decide_eq_true_eq, hny]; omega
        clear hny he hl h1 h2 hlp
        go_upto_region 25 with fail
        obtain ⟨we, hwe⟩ : ∃ w', w' = w4.setCell ⟨W + 1, 1, none⟩ (.int .i64 3) := ⟨_, rfl⟩
        have te := set_turn w4 (W + 1) 1 (.int .i64 3)
        rw [← hwe] at te ⊢
        have Re := te.heap D4.out.r (fun e => by have e : W = W + 1 := e; omega)
        have Ye : we.heap[W + 1]? = some (.cells #[.slice Ay ny cy, .int .i64 3] 61 (0, 0)) := by rw [hwe, heap_setCell_same w4 (W + 1) 1 _ _ _ HYR.out]; rfl
        have HTe := Lib.hid (D4.out.n.trans te (fun i hi e => by have e : i = W + 1 := e; have := HW.out; omega))
        obtain ⟨⟨-, y1⟩, -, q1⟩ := ys_row Ye
        have HRe := Lib.hid Re
        clear hwe te Ye Re c0 c1 c2 c3 c4 c5 c6 c7 z0 z1 z2 z3 z4 z5 z6 z7 y0 y1' q0
        go_upto_region 26 with fail
        refine wp_region_rel 130 Stp ((.one ?_) :: (.one ?_) :: (.one ?_) :: (.one ?_) :: (.one ?_) :: (.rel (fun _ _ => True)) :: (.one ?_) :: []) (by kernel_rfl) (by kernel_rfl) rfl (by kernel_rfl) Stp.refl Stp.trans ⟨fun _ _ _ _ _ => trivial, trivial⟩ ?main
        case main =>
          iterate 4
            refine wpR_one (A' := ?_) Stp.refl (by rfl) _ rfl 130 (by rfl) (by rfl) ?_ ?_ ?_
            rotate_left 1
            · simp only [Act.put, List.setIfInBounds_toArray, List.set_cons_zero, List.set_cons_succ]; rfl
            · intro w1 hs hf K hK
              go_big_quiet_op
              first
                | go_big_quiet_on
                | (refine ⟨_, fun _ _ => rfl, ?_⟩; go_big_quiet_on)
              rfl
          refine wpR_one (A' := ?_) Stp.refl (by rfl) _ rfl 130 (by rfl) (by rfl) ?_ ?_ ?_
          rotate_left 1
          · simp only [Act.put, List.setIfInBounds_toArray, List.set_cons_zero, List.set_cons_succ]; rfl
          · intro w1 hs hf K hK
            refine cls_load_cell 3 (.tmp 127) rfl ⟨W + 1, 1, none⟩ rfl (.int .i64 3) (fun w h => by simp [go_sem, h]) (fun w2 h2 => (Turn.of_below (stp_start (Stp.trans _ _ _ hs h2) (Below.refl _ _))).cell y1 (fun h => h)) ?_
            refine hK _ ?_
            simp only [Act.put, List.setIfInBounds_toArray, List.set_cons_zero, List.set_cons_succ]
            rfl
          refine wpR_rel (A' := ?_) (by rfl) ?_ ?_ ?_
          · intro w1 hs hf
            exact does_store_zl (.tmp 2) (.tmp 124) rfl rfl rfl ((show LBx _ W none 0 none 0 zL from HRe.out).turn (Turn.of_below (stp_start hs (Below.refl _ _))) (fun h => h))
          rotate_left 1
          · intro x
            simp only [Act.put, List.setIfInBounds_toArray, List.set_cons_zero, List.set_cons_succ]; rfl
          intro x26
          iterate 1
            refine wpR_one (A' := ?_) Stp.refl (by rfl) _ rfl 130 (by rfl) (by rfl) ?_ ?_ ?_
            rotate_left 1
            · simp only [Act.put, List.setIfInBounds_toArray, List.set_cons_zero, List.set_cons_succ]; rfl
            · intro w1 hs hf K hK
              go_big_quiet_op
              first
                | go_big_quiet_on
                | (refine ⟨_, fun _ _ => rfl, ?_⟩; go_big_quiet_on)
              rfl
          intro w9 hs hf
          have T9 := Lib.hid (Turn.of_below (stp_start hs (Below.refl _ _)))
          clear hs hf
          go_wp2_with fail
          refine bodyPost_ret (v := .tuple #[.agg ZLt, .int .i64 3]) ?_ rfl ⟨none, 0, none, 0, by (rw [HRV.out, HRE.out] <;> rfl), by rw [HRV.out]; exact zL_at _ _, HTe.out.trans T9.out (fun _ _ h => h)⟩
          exact results_lt Try.results16 _ _ W _ _ rfl rfl (T9.out.heap HRe.out (fun h => h)) rfl
    · obtain ⟨h1, h2⟩ := FIN.out.2.2 he
      have HRE := Lib.hid h1
      have HRV := Lib.hid h2
      have t1 : ((r4.e : Int) == 0) = false := by rw [beq_eq_false_iff_ne]; omega
      have t2 : ((r4.e : Int) != 0) = true := by simp; omega
      have HRe := Lib.hid D4.out.r
      have HTe := Lib.hid D4.out.n
      clear hny he h1 h2
      go_upto_region 26 with fail
      refine wp_region_rel 130 Stp ((.one ?_) :: (.one ?_) :: (.one ?_) :: (.one ?_) :: (.one ?_) :: (.rel (fun _ _ => True)) :: (.one ?_) :: []) (by kernel_rfl) (by kernel_rfl) rfl (by kernel_rfl) Stp.refl Stp.trans ⟨fun _ _ _ _ _ => trivial, trivial⟩ ?main
      case main =>
        iterate 4
          refine wpR_one (A' := ?_) Stp.refl (by rfl) _ rfl 130 (by rfl) (by rfl) ?_ ?_ ?_
          rotate_left 1
          · simp only [Act.put, List.setIfInBounds_toArray, List.set_cons_zero, List.set_cons_succ]; rfl
          · intro w1 hs hf K hK
            go_big_quiet_op
            first
              | go_big_quiet_on
              | (refine ⟨_, fun _ _ => rfl, ?_⟩; go_big_quiet_on)
            rfl
        refine wpR_one (A' := ?_) Stp.refl (by rfl) _ rfl 130 (by rfl) (by rfl) ?_ ?_ ?_
        rotate_left 1
        · simp only [Act.put, List.setIfInBounds_toArray, List.set_cons_zero, List.set_cons_succ]; rfl
        · intro w1 hs hf K hK
          refine cls_load_cell 3 (.tmp 127) rfl ⟨W + 1, 1, none⟩ rfl (.int .i64 (r4.e : Int)) (fun w h => by simp [go_sem, h]) (fun w2 h2 => (Turn.of_below (stp_start (Stp.trans _ _ _ hs h2) (Below.refl _ _))).cell y1 (fun h => h)) ?_
          refine hK _ ?_
          simp only [Act.put, List.setIfInBounds_toArray, List.set_cons_zero, List.set_cons_succ]
          rfl
        refine wpR_rel (A' := ?_) (by rfl) ?_ ?_ ?_
        · intro w1 hs hf
          exact does_store_zl (.tmp 2) (.tmp 124) rfl rfl rfl ((show LBx _ W none 0 none 0 zL from HRe.out).turn (Turn.of_below (stp_start hs (Below.refl _ _))) (fun h => h))
        rotate_left 1
        · intro x
          simp only [Act.put, List.setIfInBounds_toArray, List.set_cons_zero, List.set_cons_succ]; rfl
        intro x26
        iterate 1
          refine wpR_one (A' := ?_) Stp.refl (by rfl) _ rfl 130 (by rfl) (by rfl) ?_ ?_ ?_
          rotate_left 1
          · simp only [Act.put, List.setIfInBounds_toArray, List.set_cons_zero, List.set_cons_succ]; rfl
          · intro w1 hs hf K hK
            go_big_quiet_op
            first
              | go_big_quiet_on
              | (refine ⟨_, fun _ _ => rfl, ?_⟩; go_big_quiet_on)
            rfl
        intro w9 hs hf
        have T9 := Lib.hid (Turn.of_below (stp_start hs (Below.refl _ _)))
        clear hs hf
        go_wp2_with fail
        refine bodyPost_ret (v := .tuple #[.agg ZLt, .int .i64 (r4.e : Int)]) ?_ rfl ⟨none, 0, none, 0, by (rw [HRV.out, HRE.out] <;> rfl), by rw [HRV.out]; exact zL_at _ _, HTe.out.trans T9.out (fun _ _ h => h)⟩
        exact results_lt Try.results16 _ _ W _ _ rfl rfl (T9.out.heap HRe.out (fun h => h)) rfl
  · have D1 := Lib.hid (show DSt W Z w w1 rA none 0 none 0 ⟨2, 0, 0, 0, 0, false, [], []⟩ from D1.out)
    have c0 : w1.cell? ⟨Z, 0, none⟩ = some (.int .i64 2) := (row8 D1.out.t).1.1
    have c1 : w1.cell? ⟨Z, 1, none⟩ = some (.int .i64 0) := (row8 D1.out.t).1.2.1
    have c2 : w1.cell? ⟨Z, 2, none⟩ = some (.int .i64 0) := (row8 D1.out.t).1.2.2.1
    have c3 : w1.cell? ⟨Z, 3, none⟩ = some (.int .i64 0) := (row8 D1.out.t).1.2.2.2.1
    have c4 : w1.cell? ⟨Z, 4, none⟩ = some (.int .i64 0) := (row8 D1.out.t).1.2.2.2.2.1
    have c5 : w1.cell? ⟨Z, 5, none⟩ = some (.bool false) := (row8 D1.out.t).1.2.2.2.2.2.1
    have c6 : w1.cell? ⟨Z, 6, none⟩ = some (.slice none 0 0) := (row8 D1.out.t).1.2.2.2.2.2.2.1
    have c7 : w1.cell? ⟨Z, 7, none⟩ = some (.slice none 0 0) := (row8 D1.out.t).1.2.2.2.2.2.2.2
    have z0 : w1.frozen? ⟨Z, 0, none⟩ = false := (row8 D1.out.t).2.1
    have z1 : w1.frozen? ⟨Z, 1, none⟩ = false := (row8 D1.out.t).2.2.1
    have z2 : w1.frozen? ⟨Z, 2, none⟩ = false := (row8 D1.out.t).2.2.2.1
    have z3 : w1.frozen? ⟨Z, 3, none⟩ = false := (row8 D1.out.t).2.2.2.2.1
    have z4 : w1.frozen? ⟨Z, 4, none⟩ = false := (row8 D1.out.t).2.2.2.2.2.1
    have z5 : w1.frozen? ⟨Z, 5, none⟩ = false := (row8 D1.out.t).2.2.2.2.2.2.1
    have z6 : w1.frozen? ⟨Z, 6, none⟩ = false := (row8 D1.out.t).2.2.2.2.2.2.2.1
    have z7 : w1.frozen? ⟨Z, 7, none⟩ = false := (row8 D1.out.t).2.2.2.2.2.2.2.2
    have T := enum_any (fun i => W ≤ i) (W + 1) rA.e 1099511627776 rA.l w1 D1.out.y hWy (HN.out w1 (by have := D1.out.z; have := D1.out.q; omega)) (by decide)
    change Calls _ _ _ _ (fun r w' => r = .returned (.int .i64 ((rA.nv MX : Nat) : Int)) ∧ YS w' _ _ (rA.num MX).e (rA.num MX).l ∧ _) at T
    obtain ⟨x2, hx⟩ : ∃ x, x = rA.nv MX := ⟨_, rfl⟩
    obtain ⟨r2, hs⟩ : ∃ s, s = rA.num MX := ⟨_, rfl⟩
    rw [← hx, ← hs] at T
    have bx2 : x2 ≤ 1099511627776 := by rw [hx]; exact Nat.le_trans (nv_le _ _) (by decide)
    have HX2 := Lib.hid hx
    have HS2 := Lib.hid hs
    have T := Lib.hid T
    clear hx hs
    go_wp2_with fail
    refine T.out.mono ?_
    rintro r v2 ⟨rfl, hy, t⟩
    have E2 := Lib.hid (D1.out.num HW.out hy t)
    clear hy t T c0 c1 c2 c3 c4 c5 c6 c7 z0 z1 z2 z3 z4 z5 z6 z7
    have c0 : v2.cell? ⟨Z, 0, none⟩ = some (.int .i64 2) := (row8 E2.out.t).1.1
    have c1 : v2.cell? ⟨Z, 1, none⟩ = some (.int .i64 0) := (row8 E2.out.t).1.2.1
    have c2 : v2.cell? ⟨Z, 2, none⟩ = some (.int .i64 0) := (row8 E2.out.t).1.2.2.1
    have c3 : v2.cell? ⟨Z, 3, none⟩ = some (.int .i64 0) := (row8 E2.out.t).1.2.2.2.1
    have c4 : v2.cell? ⟨Z, 4, none⟩ = some (.int .i64 0) := (row8 E2.out.t).1.2.2.2.2.1
    have c5 : v2.cell? ⟨Z, 5, none⟩ = some (.bool false) := (row8 E2.out.t).1.2.2.2.2.2.1
    have c6 : v2.cell? ⟨Z, 6, none⟩ = some (.slice none 0 0) := (row8 E2.out.t).1.2.2.2.2.2.2.1
    have c7 : v2.cell? ⟨Z, 7, none⟩ = some (.slice none 0 0) := (row8 E2.out.t).1.2.2.2.2.2.2.2
    have z0 : v2.frozen? ⟨Z, 0, none⟩ = false := (row8 E2.out.t).2.1
    have z1 : v2.frozen? ⟨Z, 1, none⟩ = false := (row8 E2.out.t).2.2.1
    have z2 : v2.frozen? ⟨Z, 2, none⟩ = false := (row8 E2.out.t).2.2.2.1
    have z3 : v2.frozen? ⟨Z, 3, none⟩ = false := (row8 E2.out.t).2.2.2.2.1
    have z4 : v2.frozen? ⟨Z, 4, none⟩ = false := (row8 E2.out.t).2.2.2.2.2.1
    have z5 : v2.frozen? ⟨Z, 5, none⟩ = false := (row8 E2.out.t).2.2.2.2.2.2.1
    have z6 : v2.frozen? ⟨Z, 6, none⟩ = false := (row8 E2.out.t).2.2.2.2.2.2.2.1
    have z7 : v2.frozen? ⟨Z, 7, none⟩ = false := (row8 E2.out.t).2.2.2.2.2.2.2.2
    go_upto_region 6 with fail
    obtain ⟨w2, hw⟩ : ∃ w', w' = v2.setCell ⟨Z, 1, none⟩ (.int .i64 (x2 : Int)) := ⟨_, rfl⟩
    have D2 := Lib.hid (show DSt W Z w w2 r2 none 0 none 0 ⟨2, (x2 : Int), 0, 0, 0, false, [], []⟩ by rw [hw]; exact E2.out.set HW.out 1 _ _ _ _ _ rfl ⟨rfl, rfl, rfl⟩ E2.out.b)
    rw [← hw]
    clear hw E2 c0 c1 c2 c3 c4 c5 c6 c7 z0 z1 z2 z3 z4 z5 z6 z7
    have c0 : w2.cell? ⟨Z, 0, none⟩ = some (.int .i64 2) := (row8 D2.out.t).1.1
    have c1 : w2.cell? ⟨Z, 1, none⟩ = some (.int .i64 (x2 : Int)) := (row8 D2.out.t).1.2.1
    have c2 : w2.cell? ⟨Z, 2, none⟩ = some (.int .i64 0) := (row8 D2.out.t).1.2.2.1
    have c3 : w2.cell? ⟨Z, 3, none⟩ = some (.int .i64 0) := (row8 D2.out.t).1.2.2.2.1
    have c4 : w2.cell? ⟨Z, 4, none⟩ = some (.int .i64 0) := (row8 D2.out.t).1.2.2.2.2.1
    have c5 : w2.cell? ⟨Z, 5, none⟩ = some (.bool false) := (row8 D2.out.t).1.2.2.2.2.2.1
    have c6 : w2.cell? ⟨Z, 6, none⟩ = some (.slice none 0 0) := (row8 D2.out.t).1.2.2.2.2.2.2.1
    have c7 : w2.cell? ⟨Z, 7, none⟩ = some (.slice none 0 0) := (row8 D2.out.t).1.2.2.2.2.2.2.2
    have z0 : w2.frozen? ⟨Z, 0, none⟩ = false := (row8 D2.out.t).2.1
    have z1 : w2.frozen? ⟨Z, 1, none⟩ = false := (row8 D2.out.t).2.2.1
    have z2 : w2.frozen? ⟨Z, 2, none⟩ = false := (row8 D2.out.t).2.2.2.1
    have z3 : w2.frozen? ⟨Z, 3, none⟩ = false := (row8 D2.out.t).2.2.2.2.1
    have z4 : w2.frozen? ⟨Z, 4, none⟩ = false := (row8 D2.out.t).2.2.2.2.2.1
    have z5 : w2.frozen? ⟨Z, 5, none⟩ = false := (row8 D2.out.t).2.2.2.2.2.2.1
    have z6 : w2.frozen? ⟨Z, 6, none⟩ = false := (row8 D2.out.t).2.2.2.2.2.2.2.1
    have z7 : w2.frozen? ⟨Z, 7, none⟩ = false := (row8 D2.out.t).2.2.2.2.2.2.2.2
    have T := enum_any (fun i => W ≤ i) (W + 1) r2.e 1 r2.l w2 D2.out.y hWy (HN.out w2 (by have := D2.out.z; have := D2.out.q; omega)) (by decide)
    change Calls _ _ _ _ (fun r w' => r = .returned (.int .i64 ((r2.nv 1 : Nat) : Int)) ∧ YS w' _ _ (r2.num 1).e (r2.num 1).l ∧ _) at T
    obtain ⟨x3, hx⟩ : ∃ x, x = r2.nv 1 := ⟨_, rfl⟩
    obtain ⟨r3, hs⟩ : ∃ s, s = r2.num 1 := ⟨_, rfl⟩
    rw [← hx, ← hs] at T
    have bx3 : x3 ≤ 1099511627776 := by rw [hx]; exact Nat.le_trans (nv_le _ _) (by decide)
    have HX3 := Lib.hid hx
    have HS3 := Lib.hid hs
    have T := Lib.hid T
    clear hx hs
    go_wp2_with fail
    refine T.out.mono ?_
    rintro r v3 ⟨rfl, hy, t⟩
    have E3 := Lib.hid (D2.out.num HW.out hy t)
    clear hy t T c0 c1 c2 c3 c4 c5 c6 c7 z0 z1 z2 z3 z4 z5 z6 z7
    have c0 : v3.cell? ⟨Z, 0, none⟩ = some (.int .i64 2) := (row8 E3.out.t).1.1
    have c1 : v3.cell? ⟨Z, 1, none⟩ = some (.int .i64 (x2 : Int)) := (row8 E3.out.t).1.2.1
    have c2 : v3.cell? ⟨Z, 2, none⟩ = some (.int .i64 0) := (row8 E3.out.t).1.2.2.1
    have c3 : v3.cell? ⟨Z, 3, none⟩ = some (.int .i64 0) := (row8 E3.out.t).1.2.2.2.1
    have c4 : v3.cell? ⟨Z, 4, none⟩ = some (.int .i64 0) := (row8 E3.out.t).1.2.2.2.2.1
    have c5 : v3.cell? ⟨Z, 5, none⟩ = some (.bool false) := (row8 E3.out.t).1.2.2.2.2.2.1
    have c6 : v3.cell? ⟨Z, 6, none⟩ = some (.slice none 0 0) := (row8 E3.out.t).1.2.2.2.2.2.2.1
    have c7 : v3.cell? ⟨Z, 7, none⟩ = some (.slice none 0 0) := (row8 E3.out.t).1.2.2.2.2.2.2.2
    have z0 : v3.frozen? ⟨Z, 0, none⟩ = false := (row8 E3.out.t).2.1
    have z1 : v3.frozen? ⟨Z, 1, none⟩ = false := (row8 E3.out.t).2.2.1
    have z2 : v3.frozen? ⟨Z, 2, none⟩ = false := (row8 E3.out.t).2.2.2.1
    have z3 : v3.frozen? ⟨Z, 3, none⟩ = false := (row8 E3.out.t).2.2.2.2.1
    have z4 : v3.frozen? ⟨Z, 4, none⟩ = false := (row8 E3.out.t).2.2.2.2.2.1
    have z5 : v3.frozen? ⟨Z, 5, none⟩ = false := (row8 E3.out.t).2.2.2.2.2.2.1
    have z6 : v3.frozen? ⟨Z, 6, none⟩ = false := (row8 E3.out.t).2.2.2.2.2.2.2.1
    have z7 : v3.frozen? ⟨Z, 7, none⟩ = false := (row8 E3.out.t).2.2.2.2.2.2.2.2
    obtain ⟨q3, hq⟩ : ∃ q, q = yesB x3 := ⟨_, rfl⟩
    have hq3 : ((x3 : Int) == 1) = q3 := by rw [hq]; rfl
    have HQ3 := Lib.hid hq
    clear hq
    go_upto_region 8 with fail
    obtain ⟨w3, hw⟩ : ∃ w', w' = v3.setCell ⟨Z, 5, none⟩ (.bool q3) := ⟨_, rfl⟩
    have D3 := Lib.hid (show DSt W Z w w3 r3 none 0 none 0 ⟨2, (x2 : Int), 0, 0, 0, q3, [], []⟩ by rw [hw]; exact E3.out.set HW.out 5 _ _ _ _ _ rfl ⟨rfl, rfl, rfl⟩ E3.out.b)
    rw [← hw]
    clear hw E3 c0 c1 c2 c3 c4 c5 c6 c7 z0 z1 z2 z3 z4 z5 z6 z7
    clear hq3
    have c0 : w3.cell? ⟨Z, 0, none⟩ = some (.int .i64 2) := (row8 D3.out.t).1.1
    have c1 : w3.cell? ⟨Z, 1, none⟩ = some (.int .i64 (x2 : Int)) := (row8 D3.out.t).1.2.1
    have c2 : w3.cell? ⟨Z, 2, none⟩ = some (.int .i64 0) := (row8 D3.out.t).1.2.2.1
    have c3 : w3.cell? ⟨Z, 3, none⟩ = some (.int .i64 0) := (row8 D3.out.t).1.2.2.2.1
    have c4 : w3.cell? ⟨Z, 4, none⟩ = some (.int .i64 0) := (row8 D3.out.t).1.2.2.2.2.1
    have c5 : w3.cell? ⟨Z, 5, none⟩ = some (.bool q3) := (row8 D3.out.t).1.2.2.2.2.2.1
    have c6 : w3.cell? ⟨Z, 6, none⟩ = some (.slice none 0 0) := (row8 D3.out.t).1.2.2.2.2.2.2.1
    have c7 : w3.cell? ⟨Z, 7, none⟩ = some (.slice none 0 0) := (row8 D3.out.t).1.2.2.2.2.2.2.2
    have z0 : w3.frozen? ⟨Z, 0, none⟩ = false := (row8 D3.out.t).2.1
    have z1 : w3.frozen? ⟨Z, 1, none⟩ = false := (row8 D3.out.t).2.2.1
    have z2 : w3.frozen? ⟨Z, 2, none⟩ = false := (row8 D3.out.t).2.2.2.1
    have z3 : w3.frozen? ⟨Z, 3, none⟩ = false := (row8 D3.out.t).2.2.2.2.1
    have z4 : w3.frozen? ⟨Z, 4, none⟩ = false := (row8 D3.out.t).2.2.2.2.2.1
    have z5 : w3.frozen? ⟨Z, 5, none⟩ = false := (row8 D3.out.t).2.2.2.2.2.2.1
    have z6 : w3.frozen? ⟨Z, 6, none⟩ = false := (row8 D3.out.t).2.2.2.2.2.2.2.1
    have z7 : w3.frozen? ⟨Z, 7, none⟩ = false := (row8 D3.out.t).2.2.2.2.2.2.2.2
    have FIN := Lib.hid (rd_fin (b := b) (s := r3) (lt := ⟨2, (x2 : Int), 0, 0, 0, q3, [], []⟩) (by rw [← HRA.out]; exact hA0) (by rw [← HK.out]; decide) (by show bodS (k1 b) (s2 b) = r3; rw [← HK.out, show s2 b = (s1 b).num MX from rfl, ← HRA.out, ← HS2.out]; simp only [bodS]; simp [HS3.out]) (by rw [← HK.out, show s2 b = (s1 b).num MX from rfl, ← HRA.out, ← HS2.out, ← HX2.out]; simp only [bodV]; simp [HX3.out, HS3.out, HQ3.out]))
    obtain ⟨Ay, cy, ny, ⟨y0, y1⟩, ⟨q0, q1⟩, hny, hyr⟩ := D3.out.ys
    have HYR := Lib.hid hyr
    clear hyr
    by_cases he : r3.e = 0
    · have hny := hny he
      have y1' : w3.cell? ⟨W + 1, 1, none⟩ = some (.int .i64 0) := by rw [y1, he]; rfl
      clear y1
      by_cases hl : r3.l = []
      · obtain ⟨h1, h2⟩ := FIN.out.1 he hl
        have HRE := Lib.hid h1
        have HRV := Lib.hid h2
        have tn : decide (0 < (ny : Int)) = false := by rw [decide_eq_false_iff_not, hny, hl]; simp
        have tn2 : decide (0 < ny) = false := by rw [decide_eq_false_iff_not, hny, hl]; simp
        clear hny he hl h1 h2
        obtain ⟨⟨d0, d1, d2, d3, d4, d5, d6, d7⟩, u0, u1, u2, u3, u4, u5, u6, u7⟩ := row8 D3.out.r
        go_wp2_with fail
        have h5 := set8 D3.out.r (.int .i64 2) (.int .i64 (x2 : Int)) (.int .i64 0) (.int .i64 0) (.int .i64 0) (.bool q3) (.slice none 0 0) (.slice none 0 0)
        refine bodyPost_ret (v := .tuple #[.agg #[.int .i64 2, .int .i64 (x2 : Int), .int .i64 0, .int .i64 0, .int .i64 0, .bool q3, .slice none 0 0, .slice none 0 0], .int .i64 0]) ?_ rfl ⟨none, 0, none, 0, by rw [HRV.out, HRE.out]; rfl, by rw [HRV.out]; exact D3.out.ltN (by refine ⟨?_, ?_, ?_, ?_, ?_⟩ <;> (unfold i64R; dsimp only; omega)) (Nat.zero_le _) _ (h5.2.mono (fun _ _ h => .inl h)), D3.out.n.trans h5.2 (fun i hi e => by have e : i = W := e; have := HW.out; omega)⟩
        exact results_lt Try.results16 _ _ W _ _ rfl rfl h5.1 rfl
      · obtain ⟨h1, h2⟩ := FIN.out.2.1 he hl
        have HRE := Lib.hid h1
        have HRV := Lib.hid h2
        have hlp : 0 < r3.l.length := List.length_pos_iff.2 hl
        have tn : decide (0 < (ny : Int)) = true := by rw [decide_eq_true_eq, hny]; omega
        have tn2 : decide (0 < ny) = true := by rw [decide_eq_true_eq, hny]; omega
        clear hny he hl h1 h2 hlp
        go_upto_region 25 with fail
        obtain ⟨we, hwe⟩ : ∃ w', w' = w3.setCell ⟨W + 1, 1, none⟩ (.int .i64 3) := ⟨_, rfl⟩
        have te := set_turn w3 (W + 1) 1 (.int .i64 3)
        rw [← hwe] at te ⊢
        have Re := te.heap D3.out.r (fun e => by have e : W = W + 1 := e; omega)
        have Ye : we.heap[W + 1]? = some (.cells #[.slice Ay ny cy, .int .i64 3] 61 (0, 0)) := by rw [hwe, heap_setCell_same w3 (W + 1) 1 _ _ _ HYR.out]; rfl
        have HTe := Lib.hid (D3.out.n.trans te (fun i hi e => by have e : i = W + 1 := e; have := HW.out; omega))
        obtain ⟨⟨-, y1⟩, -, q1⟩ := ys_row Ye
        have HRe := Lib.hid Re
        clear hwe te Ye Re c0 c1 c2 c3 c4 c5 c6 c7 z0 z1 z2 z3 z4 z5 z6 z7 y0 y1' q0
        go_upto_region 26 with fail
        refine wp_region_rel 130 Stp ((.one ?_) :: (.one ?_) :: (.one ?_) :: (.one ?_) :: (.one ?_) :: (.rel (fun _ _ => True)) :: (.one ?_) :: []) (by kernel_rfl) (by kernel_rfl) rfl (by kernel_rfl) Stp.refl Stp.trans ⟨fun _ _ _ _ _ => trivial, trivial⟩ ?main
        case main =>
          iterate 4
            refine wpR_one (A' := ?_) Stp.refl (by rfl) _ rfl 130 (by rfl) (by rfl) ?_ ?_ ?_
            rotate_left 1
            · simp only [Act.put, List.setIfInBounds_toArray, List.set_cons_zero, List.set_cons_succ]; rfl
            · intro w1 hs hf K hK
              go_big_quiet_op
              first
                | go_big_quiet_on
                | (refine ⟨_, fun _ _ => rfl, ?_⟩; go_big_quiet_on)
              rfl
          refine wpR_one (A' := ?_) Stp.refl (by rfl) _ rfl 130 (by rfl) (by rfl) ?_ ?_ ?_
          rotate_left 1
          · simp only [Act.put, List.setIfInBounds_toArray, List.set_cons_zero, List.set_cons_succ]; rfl
          · intro w1 hs hf K hK
            refine cls_load_cell 3 (.tmp 127) rfl ⟨W + 1, 1, none⟩ rfl (.int .i64 3) (fun w h => by simp [go_sem, h]) (fun w2 h2 => (Turn.of_below (stp_start (Stp.trans _ _ _ hs h2) (Below.refl _ _))).cell y1 (fun h => h)) ?_
            refine hK _ ?_
            simp only [Act.put, List.setIfInBounds_toArray, List.set_cons_zero, List.set_cons_succ]
            rfl
          refine wpR_rel (A' := ?_) (by rfl) ?_ ?_ ?_
          · intro w1 hs hf
            exact does_store_zl (.tmp 2) (.tmp 124) rfl rfl rfl ((show LBx _ W none 0 none 0 zL from HRe.out).turn (Turn.of_below (stp_start hs (Below.refl _ _))) (fun h => h))
          rotate_left 1
          · intro x
            simp only [Act.put, List.setIfInBounds_toArray, List.set_cons_zero, List.set_cons_succ]; rfl
          intro x26
          iterate 1
            refine wpR_one (A' := ?_) Stp.refl (by rfl) _ rfl 130 (by rfl) (by rfl) ?_ ?_ ?_
            rotate_left 1
            · simp only [Act.put, List.setIfInBounds_toArray, List.set_cons_zero, List.set_cons_succ]; rfl
            · intro w1 hs hf K hK
              go_big_quiet_op
              first
                | go_big_quiet_on
                | (refine ⟨_, fun _ _ => rfl, ?_⟩; go_big_quiet_on)
              rfl
          intro w9 hs hf
          have T9 := Lib.hid (Turn.of_below (stp_start hs (Below.refl _ _)))
          clear hs hf
          go_wp2_with fail
          refine bodyPost_ret (v := .tuple #[.agg ZLt, .int .i64 3]) ?_ rfl ⟨none, 0, none, 0, by (rw [HRV.out, HRE.out] <;> rfl), by rw [HRV.out]; exact zL_at _ _, HTe.out.trans T9.out (fun _ _ h => h)⟩
          exact results_lt Try.results16 _ _ W _ _ rfl rfl (T9.out.heap HRe.out (fun h => h)) rfl
    · obtain ⟨h1, h2⟩ := FIN.out.2.2 he
      have HRE := Lib.hid h1
      have HRV := Lib.hid h2
      have t1 : ((r3.e : Int) == 0) = false := by rw [beq_eq_false_iff_ne]; omega
      have t2 : ((r3.e : Int) != 0) = true := by simp; omega
      have HRe := Lib.hid D3.out.r
      have HTe := Lib.hid D3.out.n
      clear hny he h1 h2
      go_upto_region 26 with fail
      refine wp_region_rel 130 Stp ((.one ?_) :: (.one ?_) :: (.one ?_) :: (.one ?_) :: (.one ?_) :: (.rel (fun _ _ => True)) :: (.one ?_) :: []) (by kernel_rfl) (by kernel_rfl) rfl (by kernel_rfl) Stp.refl Stp.trans ⟨fun _ _ _ _ _ => trivial, trivial⟩ ?main
      case main =>
        iterate 4
          refine wpR_one (A' := ?_) Stp.refl (by rfl) _ rfl 130 (by rfl) (by rfl) ?_ ?_ ?_
          rotate_left 1
          · simp only [Act.put, List.setIfInBounds_toArray, List.set_cons_zero, List.set_cons_succ]; rfl
          · intro w1 hs hf K hK
            go_big_quiet_op
            first
              | go_big_quiet_on
              | (refine ⟨_, fun _ _ => rfl, ?_⟩; go_big_quiet_on)
            rfl
        refine wpR_one (A' := ?_) Stp.refl (by rfl) _ rfl 130 (by rfl) (by rfl) ?_ ?_ ?_
        rotate_left 1
        · simp only [Act.put, List.setIfInBounds_toArray, List.set_cons_zero, List.set_cons_succ]; rfl
        · intro w1 hs hf K hK
          refine cls_load_cell 3 (.tmp 127) rfl ⟨W + 1, 1, none⟩ rfl (.int .i64 (r3.e : Int)) (fun w h => by simp [go_sem, h]) (fun w2 h2 => (Turn.of_below (stp_start (Stp.trans _ _ _ hs h2) (Below.refl _ _))).cell y1 (fun h => h)) ?_
          refine hK _ ?_
          simp only [Act.put, List.setIfInBounds_toArray, List.set_cons_zero, List.set_cons_succ]
          rfl
        refine wpR_rel (A' := ?_) (by rfl) ?_ ?_ ?_
        · intro w1 hs hf
          exact does_store_zl (.tmp 2) (.tmp 124) rfl rfl rfl ((show LBx _ W none 0 none 0 zL from HRe.out).turn (Turn.of_below (stp_start hs (Below.refl _ _))) (fun h => h))
        rotate_left 1
        · intro x
          simp only [Act.put, List.setIfInBounds_toArray, List.set_cons_zero, List.set_cons_succ]; rfl
        intro x26
        iterate 1
          refine wpR_one (A' := ?_) Stp.refl (by rfl) _ rfl 130 (by rfl) (by rfl) ?_ ?_ ?_
          rotate_left 1
          · simp only [Act.put, List.setIfInBounds_toArray, List.set_cons_zero, List.set_cons_succ]; rfl
          · intro w1 hs hf K hK
            go_big_quiet_op
            first
              | go_big_quiet_on
              | (refine ⟨_, fun _ _ => rfl, ?_⟩; go_big_quiet_on)
            rfl
        intro w9 hs hf
        have T9 := Lib.hid (Turn.of_below (stp_start hs (Below.refl _ _)))
        clear hs hf
        go_wp2_with fail
        refine bodyPost_ret (v := .tuple #[.agg ZLt, .int .i64 (r3.e : Int)]) ?_ rfl ⟨none, 0, none, 0, by (rw [HRV.out, HRE.out] <;> rfl), by rw [HRV.out]; exact zL_at _ _, HTe.out.trans T9.out (fun _ _ h => h)⟩
        exact results_lt Try.results16 _ _ W _ _ rfl rfl (T9.out.heap HRe.out (fun h => h)) rfl
  · have D1 := Lib.hid (show DSt W Z w w1 rA none 0 none 0 ⟨3, 0, 0, 0, 0, false, [], []⟩ from D1.out)
    have c0 : w1.cell? ⟨Z, 0, none⟩ = some (.int .i64 3) := (row8 D1.out.t).1.1
    have c1 : w1.cell? ⟨Z, 1, none⟩ = some (.int .i64 0) := (row8 D1.out.t).1.2.1
    have c2 : w1.cell? ⟨Z, 2, none⟩ = some (.int .i64 0) := (row8 D1.out.t).1.2.2.1
    have c3 : w1.cell? ⟨Z, 3, none⟩ = some (.int .i64 0) := (row8 D1.out.t).1.2.2.2.1
    have c4 : w1.cell? ⟨Z, 4, none⟩ = some (.int .i64 0) := (row8 D1.out.t).1.2.2.2.2.1
    have c5 : w1.cell? ⟨Z, 5, none⟩ = some (.bool false) := (row8 D1.out.t).1.2.2.2.2.2.1
    have c6 : w1.cell? ⟨Z, 6, none⟩ = some (.slice none 0 0) := (row8 D1.out.t).1.2.2.2.2.2.2.1
    have c7 : w1.cell? ⟨Z, 7, none⟩ = some (.slice none 0 0) := (row8 D1.out.t).1.2.2.2.2.2.2.2
    have z0 : w1.frozen? ⟨Z, 0, none⟩ = false := (row8 D1.out.t).2.1
    have z1 : w1.frozen? ⟨Z, 1, none⟩ = false := (row8 D1.out.t).2.2.1
    have z2 : w1.frozen? ⟨Z, 2, none⟩ = false := (row8 D1.out.t).2.2.2.1
    have z3 : w1.frozen? ⟨Z, 3, none⟩ = false := (row8 D1.out.t).2.2.2.2.1
    have z4 : w1.frozen? ⟨Z, 4, none⟩ = false := (row8 D1.out.t).2.2.2.2.2.1
    have z5 : w1.frozen? ⟨Z, 5, none⟩ = false := (row8 D1.out.t).2.2.2.2.2.2.1
    have z6 : w1.frozen? ⟨Z, 6, none⟩ = false := (row8 D1.out.t).2.2.2.2.2.2.2.1
    have z7 : w1.frozen? ⟨Z, 7, none⟩ = false := (row8 D1.out.t).2.2.2.2.2.2.2.2
    have T := enum_any (fun i => W ≤ i) (W + 1) rA.e 1099511627776 rA.l w1 D1.out.y hWy (HN.out w1 (by have := D1.out.z; have := D1.out.q; omega)) (by decide)
    change Calls _ _ _ _ (fun r w' => r = .returned (.int .i64 ((rA.nv MX : Nat) : Int)) ∧ YS w' _ _ (rA.num MX).e (rA.num MX).l ∧ _) at T
    obtain ⟨x2, hx⟩ : ∃ x, x = rA.nv MX := ⟨_, rfl⟩
    obtain ⟨r2, hs⟩ : ∃ s, s = rA.num MX := ⟨_, rfl⟩
    rw [← hx, ← hs] at T
    have bx2 : x2 ≤ 1099511627776 := by rw [hx]; exact Nat.le_trans (nv_le _ _) (by decide)
    have HX2 := Lib.hid hx
    have HS2 := Lib.hid hs
    have T := Lib.hid T
    clear hx hs
    go_wp2_with fail
    refine T.out.mono ?_
    rintro r v2 ⟨rfl, hy, t⟩
    have E2 := Lib.hid (D1.out.num HW.out hy t)
    clear hy t T c0 c1 c2 c3 c4 c5 c6 c7 z0 z1 z2 z3 z4 z5 z6 z7
    have c0 : v2.cell? ⟨Z, 0, none⟩ = some (.int .i64 3) := (row8 E2.out.t).1.1
    have c1 : v2.cell? ⟨Z, 1, none⟩ = some (.int .i64 0) := (row8 E2.out.t).1.2.1
    have c2 : v2.cell? ⟨Z, 2, none⟩ = some (.int .i64 0) := (row8 E2.out.t).1.2.2.1
    have c3 : v2.cell? ⟨Z, 3, none⟩ = some (.int .i64 0) := (row8 E2.out.t).1.2.2.2.1
    have c4 : v2.cell? ⟨Z, 4, none⟩ = some (.int .i64 0) := (row8 E2.out.t).1.2.2.2.2.1
    have c5 : v2.cell? ⟨Z, 5, none⟩ = some (.bool false) := (row8 E2.out.t).1.2.2.2.2.2.1
    have c6 : v2.cell? ⟨Z, 6, none⟩ = some (.slice none 0 0) := (row8 E2.out.t).1.2.2.2.2.2.2.1
    have c7 : v2.cell? ⟨Z, 7, none⟩ = some (.slice none 0 0) := (row8 E2.out.t).1.2.2.2.2.2.2.2
    have z0 : v2.frozen? ⟨Z, 0, none⟩ = false := (row8 E2.out.t).2.1
    have z1 : v2.frozen? ⟨Z, 1, none⟩ = false := (row8 E2.out.t).2.2.1
    have z2 : v2.frozen? ⟨Z, 2, none⟩ = false := (row8 E2.out.t).2.2.2.1
    have z3 : v2.frozen? ⟨Z, 3, none⟩ = false := (row8 E2.out.t).2.2.2.2.1
    have z4 : v2.frozen? ⟨Z, 4, none⟩ = false := (row8 E2.out.t).2.2.2.2.2.1
    have z5 : v2.frozen? ⟨Z, 5, none⟩ = false := (row8 E2.out.t).2.2.2.2.2.2.1
    have z6 : v2.frozen? ⟨Z, 6, none⟩ = false := (row8 E2.out.t).2.2.2.2.2.2.2.1
    have z7 : v2.frozen? ⟨Z, 7, none⟩ = false := (row8 E2.out.t).2.2.2.2.2.2.2.2
    go_upto_region 6 with fail
    obtain ⟨w2, hw⟩ : ∃ w', w' = v2.setCell ⟨Z, 1, none⟩ (.int .i64 (x2 : Int)) := ⟨_, rfl⟩
    have D2 := Lib.hid (show DSt W Z w w2 r2 none 0 none 0 ⟨3, (x2 : Int), 0, 0, 0, false, [], []⟩ by rw [hw]; exact E2.out.set HW.out 1 _ _ _ _ _ rfl ⟨rfl, rfl, rfl⟩ E2.out.b)
    rw [← hw]
    clear hw E2 c0 c1 c2 c3 c4 c5 c6 c7 z0 z1 z2 z3 z4 z5 z6 z7
    have c0 : w2.cell? ⟨Z, 0, none⟩ = some (.int .i64 3) := (row8 D2.out.t).1.1
    have c1 : w2.cell? ⟨Z, 1, none⟩ = some (.int .i64 (x2 : Int)) := (row8 D2.out.t).1.2.1
    have c2 : w2.cell? ⟨Z, 2, none⟩ = some (.int .i64 0) := (row8 D2.out.t).1.2.2.1
    have c3 : w2.cell? ⟨Z, 3, none⟩ = some (.int .i64 0) := (row8 D2.out.t).1.2.2.2.1
    have c4 : w2.cell? ⟨Z, 4, none⟩ = some (.int .i64 0) := (row8 D2.out.t).1.2.2.2.2.1
    have c5 : w2.cell? ⟨Z, 5, none⟩ = some (.bool false) := (row8 D2.out.t).1.2.2.2.2.2.1
    have c6 : w2.cell? ⟨Z, 6, none⟩ = some (.slice none 0 0) := (row8 D2.out.t).1.2.2.2.2.2.2.1
    have c7 : w2.cell? ⟨Z, 7, none⟩ = some (.slice none 0 0) := (row8 D2.out.t).1.2.2.2.2.2.2.2
    have z0 : w2.frozen? ⟨Z, 0, none⟩ = false := (row8 D2.out.t).2.1
    have z1 : w2.frozen? ⟨Z, 1, none⟩ = false := (row8 D2.out.t).2.2.1
    have z2 : w2.frozen? ⟨Z, 2, none⟩ = false := (row8 D2.out.t).2.2.2.1
    have z3 : w2.frozen? ⟨Z, 3, none⟩ = false := (row8 D2.out.t).2.2.2.2.1
    have z4 : w2.frozen? ⟨Z, 4, none⟩ = false := (row8 D2.out.t).2.2.2.2.2.1
    have z5 : w2.frozen? ⟨Z, 5, none⟩ = false := (row8 D2.out.t).2.2.2.2.2.2.1
    have z6 : w2.frozen? ⟨Z, 6, none⟩ = false := (row8 D2.out.t).2.2.2.2.2.2.2.1
    have z7 : w2.frozen? ⟨Z, 7, none⟩ = false := (row8 D2.out.t).2.2.2.2.2.2.2.2
    have T := enum_any (fun i => W ≤ i) (W + 1) r2.e 1099511627776 r2.l w2 D2.out.y hWy (HN.out w2 (by have := D2.out.z; have := D2.out.q; omega)) (by decide)
    change Calls _ _ _ _ (fun r w' => r = .returned (.int .i64 ((r2.nv MX : Nat) : Int)) ∧ YS w' _ _ (r2.num MX).e (r2.num MX).l ∧ _) at T
    obtain ⟨x3, hx⟩ : ∃ x, x = r2.nv MX := ⟨_, rfl⟩
    obtain ⟨r3, hs⟩ : ∃ s, s = r2.num MX := ⟨_, rfl⟩
    rw [← hx, ← hs] at T
    have bx3 : x3 ≤ 1099511627776 := by rw [hx]; exact Nat.le_trans (nv_le _ _) (by decide)
    have HX3 := Lib.hid hx
    have HS3 := Lib.hid hs
    have T := Lib.hid T
    clear hx hs
    go_wp2_with fail
    refine T.out.mono ?_
    rintro r v3 ⟨rfl, hy, t⟩
    have E3 := Lib.hid (D2.out.num HW.out hy t)
    clear hy t T c0 c1 c2 c3 c4 c5 c6 c7 z0 z1 z2 z3 z4 z5 z6 z7
    have c0 : v3.cell? ⟨Z, 0, none⟩ = some (.int .i64 3) := (row8 E3.out.t).1.1
    have c1 : v3.cell? ⟨Z, 1, none⟩ = some (.int .i64 (x2 : Int)) := (row8 E3.out.t).1.2.1
    have c2 : v3.cell? ⟨Z, 2, none⟩ = some (.int .i64 0) := (row8 E3.out.t).1.2.2.1
    have c3 : v3.cell? ⟨Z, 3, none⟩ = some (.int .i64 0) := (row8 E3.out.t).1.2.2.2.1
    have c4 : v3.cell? ⟨Z, 4, none⟩ = some (.int .i64 0) := (row8 E3.out.t).1.2.2.2.2.1
    have c5 : v3.cell? ⟨Z, 5, none⟩ = some (.bool false) := (row8 E3.out.t).1.2.2.2.2.2.1
    have c6 : v3.cell? ⟨Z, 6, none⟩ = some (.slice none 0 0) := (row8 E3.out.t).1.2.2.2.2.2.2.1
    have c7 : v3.cell? ⟨Z, 7, none⟩ = some (.slice none 0 0) := (row8 E3.out.t).1.2.2.2.2.2.2.2
    have z0 : v3.frozen? ⟨Z, 0, none⟩ = false := (row8 E3.out.t).2.1
    have z1 : v3.frozen? ⟨Z, 1, none⟩ = false := (row8 E3.out.t).2.2.1
    have z2 : v3.frozen? ⟨Z, 2, none⟩ = false := (row8 E3.out.t).2.2.2.1
    have z3 : v3.frozen? ⟨Z, 3, none⟩ = false := (row8 E3.out.t).2.2.2.2.1
    have z4 : v3.frozen? ⟨Z, 4, none⟩ = false := (row8 E3.out.t).2.2.2.2.2.1
    have z5 : v3.frozen? ⟨Z, 5, none⟩ = false := (row8 E3.out.t).2.2.2.2.2.2.1
    have z6 : v3.frozen? ⟨Z, 6, none⟩ = false := (row8 E3.out.t).2.2.2.2.2.2.2.1
    have z7 : v3.frozen? ⟨Z, 7, none⟩ = false := (row8 E3.out.t).2.2.2.2.2.2.2.2
    go_upto_region 10 with fail
    obtain ⟨w3, hw⟩ : ∃ w', w' = v3.setCell ⟨Z, 2, none⟩ (.int .i64 (x3 : Int)) := ⟨_, rfl⟩
    have D3 := Lib.hid (show DSt W Z w w3 r3 none 0 none 0 ⟨3, (x2 : Int), (x3 : Int), 0, 0, false, [], []⟩ by rw [hw]; exact E3.out.set HW.out 2 _ _ _ _ _ rfl ⟨rfl, rfl, rfl⟩ E3.out.b)
    rw [← hw]
    clear hw E3 c0 c1 c2 c3 c4 c5 c6 c7 z0 z1 z2 z3 z4 z5 z6 z7
    have c0 : w3.cell? ⟨Z, 0, none⟩ = some (.int .i64 3) := (row8 D3.out.t).1.1
    have c1 : w3.cell? ⟨Z, 1, none⟩ = some (.int .i64 (x2 : Int)) := (row8 D3.out.t).1.2.1
    have c2 : w3.cell? ⟨Z, 2, none⟩ = some (.int .i64 (x3 : Int)) := (row8 D3.out.t).1.2.2.1
    have c3 : w3.cell? ⟨Z, 3, none⟩ = some (.int .i64 0) := (row8 D3.out.t).1.2.2.2.1
    have c4 : w3.cell? ⟨Z, 4, none⟩ = some (.int .i64 0) := (row8 D3.out.t).1.2.2.2.2.1
    have c5 : w3.cell? ⟨Z, 5, none⟩ = some (.bool false) := (row8 D3.out.t).1.2.2.2.2.2.1
    have c6 : w3.cell? ⟨Z, 6, none⟩ = some (.slice none 0 0) := (row8 D3.out.t).1.2.2.2.2.2.2.1
    have c7 : w3.cell? ⟨Z, 7, none⟩ = some (.slice none 0 0) := (row8 D3.out.t).1.2.2.2.2.2.2.2
    have z0 : w3.frozen? ⟨Z, 0, none⟩ = false := (row8 D3.out.t).2.1
    have z1 : w3.frozen? ⟨Z, 1, none⟩ = false := (row8 D3.out.t).2.2.1
    have z2 : w3.frozen? ⟨Z, 2, none⟩ = false := (row8 D3.out.t).2.2.2.1
    have z3 : w3.frozen? ⟨Z, 3, none⟩ = false := (row8 D3.out.t).2.2.2.2.1
    have z4 : w3.frozen? ⟨Z, 4, none⟩ = false := (row8 D3.out.t).2.2.2.2.2.1
    have z5 : w3.frozen? ⟨Z, 5, none⟩ = false := (row8 D3.out.t).2.2.2.2.2.2.1
    have z6 : w3.frozen? ⟨Z, 6, none⟩ = false := (row8 D3.out.t).2.2.2.2.2.2.2.1
    have z7 : w3.frozen? ⟨Z, 7, none⟩ = false := (row8 D3.out.t).2.2.2.2.2.2.2.2
    have T := enum_any (fun i => W ≤ i) (W + 1) r3.e 1099511627776 r3.l w3 D3.out.y hWy (HN.out w3 (by have := D3.out.z; have := D3.out.q; omega)) (by decide)
    change Calls _ _ _ _ (fun r w' => r = .returned (.int .i64 ((r3.nv MX : Nat) : Int)) ∧ YS w' _ _ (r3.num MX).e (r3.num MX).l ∧ _) at T
    obtain ⟨x4, hx⟩ : ∃ x, x = r3.nv MX := ⟨_, rfl⟩
    obtain ⟨r4, hs⟩ : ∃ s, s = r3.num MX := ⟨_, rfl⟩
    rw [← hx, ← hs] at T
    have bx4 : x4 ≤ 1099511627776 := by rw [hx]; exact Nat.le_trans (nv_le _ _) (by decide)
    have HX4 := Lib.hid hx
    have HS4 := Lib.hid hs
    have T := Lib.hid T
    clear hx hs
    go_wp2_with fail
    refine T.out.mono ?_
    rintro r v4 ⟨rfl, hy, t⟩
    have E4 := Lib.hid (D3.out.num HW.out hy t)
    clear hy t T c0 c1 c2 c3 c4 c5 c6 c7 z0 z1 z2 z3 z4 z5 z6 z7
    have c0 : v4.cell? ⟨Z, 0, none⟩ = some (.int .i64 3) := (row8 E4.out.t).1.1
    have c1 : v4.cell? ⟨Z, 1, none⟩ = some (.int .i64 (x2 : Int)) := (row8 E4.out.t).1.2.1
    have c2 : v4.cell? ⟨Z, 2, none⟩ = some (.int .i64 (x3 : Int)) := (row8 E4.out.t).1.2.2.1
    have c3 : v4.cell? ⟨Z, 3, none⟩ = some (.int .i64 0) := (row8 E4.out.t).1.2.2.2.1
    have c4 : v4.cell? ⟨Z, 4, none⟩ = some (.int .i64 0) := (row8 E4.out.t).1.2.2.2.2.1
    have c5 : v4.cell? ⟨Z, 5, none⟩ = some (.bool false) := (row8 E4.out.t).1.2.2.2.2.2.1
    have c6 : v4.cell? ⟨Z, 6, none⟩ = some (.slice none 0 0) := (row8 E4.out.t).1.2.2.2.2.2.2.1
    have c7 : v4.cell? ⟨Z, 7, none⟩ = some (.slice none 0 0) := (row8 E4.out.t).1.2.2.2.2.2.2.2
    have z0 : v4.frozen? ⟨Z, 0, none⟩ = false := (row8 E4.out.t).2.1
    have z1 : v4.frozen? ⟨Z, 1, none⟩ = false := (row8 E4.out.t).2.2.1
    have z2 : v4.frozen? ⟨Z, 2, none⟩ = false := (row8 E4.out.t).2.2.2.1
    have z3 : v4.frozen? ⟨Z, 3, none⟩ = false := (row8 E4.out.t).2.2.2.2.1
    have z4 : v4.frozen? ⟨Z, 4, none⟩ = false := (row8 E4.out.t).2.2.2.2.2.1
    have z5 : v4.frozen? ⟨Z, 5, none⟩ = false := (row8 E4.out.t).2.2.2.2.2.2.1
    have z6 : v4.frozen? ⟨Z, 6, none⟩ = false := (row8 E4.out.t).2.2.2.2.2.2.2.1
    have z7 : v4.frozen? ⟨Z, 7, none⟩ = false := (row8 E4.out.t).2.2.2.2.2.2.2.2
    go_upto_region 12 with fail
    obtain ⟨w4, hw⟩ : ∃ w', w' = v4.setCell ⟨Z, 3, none⟩ (.int .i64 (x4 : Int)) := ⟨_, rfl⟩
    have D4 := Lib.hid (show DSt W Z w w4 r4 none 0 none 0 ⟨3, (x2 : Int), (x3 : Int), (x4 : Int), 0, false, [], []⟩ by rw [hw]; exact E4.out.set HW.out 3 _ _ _ _ _ rfl ⟨rfl, rfl, rfl⟩ E4.out.b)
    rw [← hw]
    clear hw E4 c0 c1 c2 c3 c4 c5 c6 c7 z0 z1 z2 z3 z4 z5 z6 z7
    have c0 : w4.cell? ⟨Z, 0, none⟩ = some (.int .i64 3) := (row8 D4.out.t).1.1
    have c1 : w4.cell? ⟨Z, 1, none⟩ = some (.int .i64 (x2 : Int)) := (row8 D4.out.t).1.2.1
    have c2 : w4.cell? ⟨Z, 2, none⟩ = some (.int .i64 (x3 : Int)) := (row8 D4.out.t).1.2.2.1
    have c3 : w4.cell? ⟨Z, 3, none⟩ = some (.int .i64 (x4 : Int)) := (row8 D4.out.t).1.2.2.2.1
    have c4 : w4.cell? ⟨Z, 4, none⟩ = some (.int .i64 0) := (row8 D4.out.t).1.2.2.2.2.1
    have c5 : w4.cell? ⟨Z, 5, none⟩ = some (.bool false) := (row8 D4.out.t).1.2.2.2.2.2.1
    have c6 : w4.cell? ⟨Z, 6, none⟩ = some (.slice none 0 0) := (row8 D4.out.t).1.2.2.2.2.2.2.1
    have c7 : w4.cell? ⟨Z, 7, none⟩ = some (.slice none 0 0) := (row8 D4.out.t).1.2.2.2.2.2.2.2
    have z0 : w4.frozen? ⟨Z, 0, none⟩ = false := (row8 D4.out.t).2.1
    have z1 : w4.frozen? ⟨Z, 1, none⟩ = false := (row8 D4.out.t).2.2.1
    have z2 : w4.frozen? ⟨Z, 2, none⟩ = false := (row8 D4.out.t).2.2.2.1
    have z3 : w4.frozen? ⟨Z, 3, none⟩ = false := (row8 D4.out.t).2.2.2.2.1
    have z4 : w4.frozen? ⟨Z, 4, none⟩ = false := (row8 D4.out.t).2.2.2.2.2.1
    have z5 : w4.frozen? ⟨Z, 5, none⟩ = false := (row8 D4.out.t).2.2.2.2.2.2.1
    have z6 : w4.frozen? ⟨Z, 6, none⟩ = false := (row8 D4.out.t).2.2.2.2.2.2.2.1
    have z7 : w4.frozen? ⟨Z, 7, none⟩ = false := (row8 D4.out.t).2.2.2.2.2.2.2.2
    have T := enum_any (fun i => W ≤ i) (W + 1) r4.e 1099511627776 r4.l w4 D4.out.y hWy (HN.out w4 (by have := D4.out.z; have := D4.out.q; omega)) (by decide)
    change Calls _ _ _ _ (fun r w' => r = .returned (.int .i64 ((r4.nv MX : Nat) : Int)) ∧ YS w' _ _ (r4.num MX).e (r4.num MX).l ∧ _) at T
    obtain ⟨x5, hx⟩ : ∃ x, x = r4.nv MX := ⟨_, rfl⟩
    obtain ⟨r5, hs⟩ : ∃ s, s = r4.num MX := ⟨_, rfl⟩
    rw [← hx, ← hs] at T
    have bx5 : x5 ≤ 1099511627776 := by rw [hx]; exact Nat.le_trans (nv_le _ _) (by decide)
    have HX5 := Lib.hid hx
    have HS5 := Lib.hid hs
    have T := Lib.hid T
    clear hx hs
    go_wp2_with fail
    refine T.out.mono ?_
    rintro r v5 ⟨rfl, hy, t⟩
    have E5 := Lib.hid (D4.out.num HW.out hy t)
    clear hy t T c0 c1 c2 c3 c4 c5 c6 c7 z0 z1 z2 z3 z4 z5 z6 z7
    have c0 : v5.cell? ⟨Z, 0, none⟩ = some (.int .i64 3) := (row8 E5.out.t).1.1
    have c1 : v5.cell? ⟨Z, 1, none⟩ = some (.int .i64 (x2 : Int)) := (row8 E5.out.t).1.2.1
    have c2 : v5.cell? ⟨Z, 2, none⟩ = some (.int .i64 (x3 : Int)) := (row8 E5.out.t).1.2.2.1
    have c3 : v5.cell? ⟨Z, 3, none⟩ = some (.int .i64 (x4 : Int)) := (row8 E5.out.t).1.2.2.2.1
    have c4 : v5.cell? ⟨Z, 4, none⟩ = some (.int .i64 0) := (row8 E5.out.t).1.2.2.2.2.1
    have c5 : v5.cell? ⟨Z, 5, none⟩ = some (.bool false) := (row8 E5.out.t).1.2.2.2.2.2.1
    have c6 : v5.cell? ⟨Z, 6, none⟩ = some (.slice none 0 0) := (row8 E5.out.t).1.2.2.2.2.2.2.1
    have c7 : v5.cell? ⟨Z, 7, none⟩ = some (.slice none 0 0) := (row8 E5.out.t).1.2.2.2.2.2.2.2
    have z0 : v5.frozen? ⟨Z, 0, none⟩ = false := (row8 E5.out.t).2.1
    have z1 : v5.frozen? ⟨Z, 1, none⟩ = false := (row8 E5.out.t).2.2.1
    have z2 : v5.frozen? ⟨Z, 2, none⟩ = false := (row8 E5.out.t).2.2.2.1
    have z3 : v5.frozen? ⟨Z, 3, none⟩ = false := (row8 E5.out.t).2.2.2.2.1
    have z4 : v5.frozen? ⟨Z, 4, none⟩ = false := (row8 E5.out.t).2.2.2.2.2.1
    have z5 : v5.frozen? ⟨Z, 5, none⟩ = false := (row8 E5.out.t).2.2.2.2.2.2.1
    have z6 : v5.frozen? ⟨Z, 6, none⟩ = false := (row8 E5.out.t).2.2.2.2.2.2.2.1
    have z7 : v5.frozen? ⟨Z, 7, none⟩ = false := (row8 E5.out.t).2.2.2.2.2.2.2.2
    go_upto_region 14 with fail
    obtain ⟨w5, hw⟩ : ∃ w', w' = v5.setCell ⟨Z, 4, none⟩ (.int .i64 (x5 : Int)) := ⟨_, rfl⟩
    have D5 := Lib.hid (show DSt W Z w w5 r5 none 0 none 0 ⟨3, (x2 : Int), (x3 : Int), (x4 : Int), (x5 : Int), false, [], []⟩ by rw [hw]; exact E5.out.set HW.out 4 _ _ _ _ _ rfl ⟨rfl, rfl, rfl⟩ E5.out.b)
    rw [← hw]
    clear hw E5 c0 c1 c2 c3 c4 c5 c6 c7 z0 z1 z2 z3 z4 z5 z6 z7
    have c0 : w5.cell? ⟨Z, 0, none⟩ = some (.int .i64 3) := (row8 D5.out.t).1.1
    have c1 : w5.cell? ⟨Z, 1, none⟩ = some (.int .i64 (x2 : Int)) := (row8 D5.out.t).1.2.1
    have c2 : w5.cell? ⟨Z, 2, none⟩ = some (.int .i64 (x3 : Int)) := (row8 D5.out.t).1.2.2.1
    have c3 : w5.cell? ⟨Z, 3, none⟩ = some (.int .i64 (x4 : Int)) := (row8 D5.out.t).1.2.2.2.1
    have c4 : w5.cell? ⟨Z, 4, none⟩ = some (.int .i64 (x5 : Int)) := (row8 D5.out.t).1.2.2.2.2.1
    have c5 : w5.cell? ⟨Z, 5, none⟩ = some (.bool false) := (row8 D5.out.t).1.2.2.2.2.2.1
    have c6 : w5.cell? ⟨Z, 6, none⟩ = some (.slice none 0 0) := (row8 D5.out.t).1.2.2.2.2.2.2.1
    have c7 : w5.cell? ⟨Z, 7, none⟩ = some (.slice none 0 0) := (row8 D5.out.t).1.2.2.2.2.2.2.2
    have z0 : w5.frozen? ⟨Z, 0, none⟩ = false := (row8 D5.out.t).2.1
    have z1 : w5.frozen? ⟨Z, 1, none⟩ = false := (row8 D5.out.t).2.2.1
    have z2 : w5.frozen? ⟨Z, 2, none⟩ = false := (row8 D5.out.t).2.2.2.1
    have z3 : w5.frozen? ⟨Z, 3, none⟩ = false := (row8 D5.out.t).2.2.2.2.1
    have z4 : w5.frozen? ⟨Z, 4, none⟩ = false := (row8 D5.out.t).2.2.2.2.2.1
    have z5 : w5.frozen? ⟨Z, 5, none⟩ = false := (row8 D5.out.t).2.2.2.2.2.2.1
    have z6 : w5.frozen? ⟨Z, 6, none⟩ = false := (row8 D5.out.t).2.2.2.2.2.2.2.1
    have z7 : w5.frozen? ⟨Z, 7, none⟩ = false := (row8 D5.out.t).2.2.2.2.2.2.2.2
    have T := enum_any (fun i => W ≤ i) (W + 1) r5.e 16 r5.l w5 D5.out.y hWy (HN.out w5 (by have := D5.out.z; have := D5.out.q; omega)) (by decide)
    change Calls _ _ _ _ (fun r w' => r = .returned (.int .i64 ((r5.nv 16 : Nat) : Int)) ∧ YS w' _ _ (r5.num 16).e (r5.num 16).l ∧ _) at T
    obtain ⟨x6, hx⟩ : ∃ x, x = r5.nv 16 := ⟨_, rfl⟩
    obtain ⟨r6, hs⟩ : ∃ s, s = r5.num 16 := ⟨_, rfl⟩
    rw [← hx, ← hs] at T
    have bx6 : x6 ≤ 1099511627776 := by rw [hx]; exact Nat.le_trans (nv_le _ _) (by decide)
    have HX6 := Lib.hid hx
    have HS6 := Lib.hid hs
    have T := Lib.hid T
    clear hx hs
    go_wp2_with fail
    refine T.out.mono ?_
    rintro r v6 ⟨rfl, hy, t⟩
    have E6 := Lib.hid (D5.out.num HW.out hy t)
    clear hy t T c0 c1 c2 c3 c4 c5 c6 c7 z0 z1 z2 z3 z4 z5 z6 z7
    have c0 : v6.cell? ⟨Z, 0, none⟩ = some (.int .i64 3) := (row8 E6.out.t).1.1
    have c1 : v6.cell? ⟨Z, 1, none⟩ = some (.int .i64 (x2 : Int)) := (row8 E6.out.t).1.2.1
    have c2 : v6.cell? ⟨Z, 2, none⟩ = some (.int .i64 (x3 : Int)) := (row8 E6.out.t).1.2.2.1
    have c3 : v6.cell? ⟨Z, 3, none⟩ = some (.int .i64 (x4 : Int)) := (row8 E6.out.t).1.2.2.2.1
    have c4 : v6.cell? ⟨Z, 4, none⟩ = some (.int .i64 (x5 : Int)) := (row8 E6.out.t).1.2.2.2.2.1
    have c5 : v6.cell? ⟨Z, 5, none⟩ = some (.bool false) := (row8 E6.out.t).1.2.2.2.2.2.1
    have c6 : v6.cell? ⟨Z, 6, none⟩ = some (.slice none 0 0) := (row8 E6.out.t).1.2.2.2.2.2.2.1
    have c7 : v6.cell? ⟨Z, 7, none⟩ = some (.slice none 0 0) := (row8 E6.out.t).1.2.2.2.2.2.2.2
    have z0 : v6.frozen? ⟨Z, 0, none⟩ = false := (row8 E6.out.t).2.1
    have z1 : v6.frozen? ⟨Z, 1, none⟩ = false := (row8 E6.out.t).2.2.1
    have z2 : v6.frozen? ⟨Z, 2, none⟩ = false := (row8 E6.out.t).2.2.2.1
    have z3 : v6.frozen? ⟨Z, 3, none⟩ = false := (row8 E6.out.t).2.2.2.2.1
    have z4 : v6.frozen? ⟨Z, 4, none⟩ = false := (row8 E6.out.t).2.2.2.2.2.1
    have z5 : v6.frozen? ⟨Z, 5, none⟩ = false := (row8 E6.out.t).2.2.2.2.2.2.1
    have z6 : v6.frozen? ⟨Z, 6, none⟩ = false := (row8 E6.out.t).2.2.2.2.2.2.2.1
    have z7 : v6.frozen? ⟨Z, 7, none⟩ = false := (row8 E6.out.t).2.2.2.2.2.2.2.2
    have hn16 : x6 ≤ 16 := by rw [HX6.out]; exact nv_le _ _
    go_upto_region 17 with fail
    clear c0 c1 c2 c3 c4 c5 c6 c7 z0 z1 z2 z3 z4 z5 z6 z7 y0 y1' q0 q1
    go_loopw [7, 8] (fun iv tv wr => ∃ (j : Nat) (A9 : Option Addr) (cA9 : Nat), j ≤ x6 ∧ iv = .int .i64 (j : Int) ∧ DSt W Z w wr (itsS j r6) A9 cA9 none 0 ⟨3, (x2 : Int), (x3 : Int), (x4 : Int), (x5 : Int), false, itsVs j r6, []⟩) (fun iv _ _ => x6 - (intOf iv).toNat)
    case atStart => exact ⟨0, none, 0, Nat.zero_le _, rfl, E6.out⟩
    case round =>
      clear E6
      obtain ⟨j, A9, cA9, hj, rfl, hD⟩ := hrel
      by_cases hgo : j < x6 ∧ (itsS j r6).e = 0
      · obtain ⟨hlt, he⟩ := hgo
        have HNX := Lib.hid (itsS_next he)
        have HLN := Lib.hid (itsVs_full he)
        obtain ⟨rk, hrk⟩ : ∃ r, r = itsS j r6 := ⟨_, rfl⟩
        obtain ⟨Lk, hLk⟩ : ∃ r, r = itsVs j r6 := ⟨_, rfl⟩
        rw [← hrk, ← hLk] at hD HNX
        rw [← hrk] at he
        rw [← hLk] at HLN
        have D7 := Lib.hid hD
        obtain ⟨Ay, cy, ny, ⟨y0, y1⟩, ⟨q0, q1⟩, hny, hyr⟩ := hD.ys
        have y1' : wr.cell? ⟨W + 1, 1, none⟩ = some (.int .i64 0) := by rw [y1, he]; rfl
        have hk2 : decide ((j : Int) < (x6 : Int)) = true := by rw [decide_eq_true_eq]; omega
        have hk3 : decide (j < x6) = true := by rw [decide_eq_true_eq]; omega
        clear hD hny hyr y1 hrk hLk
        have T := enum_any (fun i => W ≤ i) (W + 1) rk.e 1099511627776 rk.l wr D7.out.y hWy (HN.out wr (by have := D7.out.z; have := D7.out.q; omega)) (by decide)
        change Calls _ _ _ _ (fun r w' => r = .returned (.int .i64 ((rk.nv MX : Nat) : Int)) ∧ YS w' _ _ (rk.num MX).e (rk.num MX).l ∧ _) at T
        obtain ⟨x8, hx⟩ : ∃ x, x = rk.nv MX := ⟨_, rfl⟩
        obtain ⟨r8, hs⟩ : ∃ s, s = rk.num MX := ⟨_, rfl⟩
        rw [← hx, ← hs] at T
        have bx8 : x8 ≤ 1099511627776 := by rw [hx]; exact Nat.le_trans (nv_le _ _) (by decide)
        have HX8 := Lib.hid hx
        have HS8 := Lib.hid hs
        have T := Lib.hid T
        clear hx hs
        go_wp2_with fail
        refine T.out.mono ?_
        rintro r v8 ⟨rfl, hy, t⟩
        have hE8 := D7.out.num HW.out hy t
        clear hy t T y0 y1' q0 q1 hk2 hk3
        have T := etext_any (fun i => W ≤ i) (W + 1) r8.e 8192 r8.l v8.drew hE8.drew.y hWy (HN.out v8.drew (by have := hE8.z; have := hE8.q; show W ≤ v8.heap.size; omega)) (by decide)
        change Calls _ _ _ _ (fun r w' => ∃ S cS, r = .returned (.slice S (r8.tv 8192).length cS) ∧ BtN w' _ S cS (r8.tv 8192) ∧ YS w' _ _ (r8.text 8192).e (r8.text 8192).l ∧ _) at T
        obtain ⟨tx, htx⟩ : ∃ x, x = r8.tv 8192 := ⟨_, rfl⟩
        obtain ⟨r9, hs⟩ : ∃ s, s = r8.text 8192 := ⟨_, rfl⟩
        rw [← htx, ← hs] at T
        obtain ⟨tl, htl⟩ : ∃ n, n = tx.length := ⟨_, rfl⟩
        rw [← htl] at T
        have HTL := Lib.hid htl
        have HTX := Lib.hid htx
        have HS9 := Lib.hid hs
        have T := Lib.hid T
        have HOK := Lib.hid (show (⟨(x8 : Int), tx⟩ : Itm).ok from ⟨by show i64R _; unfold i64R; dsimp only; omega, by show tx.length ≤ maxLen; rw [htx]; exact lt_maxM (Nat.le_trans (tvm_le _ _) (by decide))⟩)
        obtain ⟨n9, hn9⟩ : ∃ n, n = Lk.length := ⟨_, rfl⟩
        have E8 := Lib.hid (show DSt W Z w v8.drew r8 A9 cA9 none 0 ⟨3, (x2 : Int), (x3 : Int), (x4 : Int), (x5 : Int), false, Lk, []⟩ from hE8.drew)
        obtain ⟨cs, ho, hv⟩ := E8.out.it
        have HO := Lib.hid (And.intro ho hv)
        have hn17 : n9 ≤ 16 := by rw [hn9, HLN.out]; omega
        have HN9 := Lib.hid hn9
        obtain ⟨i0, hi, hz0, hz1, hz2⟩ := info_parts it_info
        have c6 : v8.drew.cell? ⟨Z, 6, none⟩ = some (.slice A9 n9 cA9) := by rw [hn9]; exact (row8 E8.out.t).1.2.2.2.2.2.2.1
        have c6' : v8.cell? ⟨Z, 6, none⟩ = some (.slice A9 n9 cA9) := c6
        obtain ⟨V9, hV9⟩ : ∃ V : Value, V = .slice A9 n9 cA9 := ⟨_, rfl⟩
        rw [← hV9] at c6 c6'
        have HV9 := Lib.hid hV9
        clear htx hs htl hE8 hn9 ho hv hV9
        go_upto_region 20 with fail
        go_region_law (first
          | (refine step_call rfl 33 #[.pointer (some ⟨W + 1, 0, none⟩), .int .i64 8192] (by kernel_rfl) ?_
             refine T.out.mono ?_
             rintro r v9 ⟨S9, c9, rfl, hb, hy, t⟩
             refine ⟨_, rfl, ?_⟩
             have E9 := Lib.hid (E8.out.num HW.out hy t)
             have HB9 := Lib.hid hb
             have O9 := Lib.hid (And.intro (own_turn2 t HO.out.1 (fun g e hg => by have := (HO.out.1.lt g e).1; have hg : g = W + 1 := hg; have := E8.out.q; omega)) (HO.out.2.turn (N' := fun i => W ≤ i) t (fun i e => by have e : i = W + 1 := e; show W ≤ i; omega) (fun _ _ h => h)))
             have c69 : v9.cell? ⟨Z, 6, none⟩ = some V9 := t.cell c6 (fun e => by have e : Z = W + 1 := e; have := E8.out.q; omega)
             have c6a : (v9.alloc (.cells #[.int .i64 (x8 : Int), .slice S9 tl c9] 40)).cell? ⟨Z, 6, none⟩ = some V9 := ((Turn.refl (fun _ => False) _).alloc _).cell c69 (fun h => h)
             clear hb hy t)
          | (refine step_append_row rfl (.tmp 89) (.tmp 94) 22 rfl (Z + 1) 40 i0 (.agg #[.int .i64 0, .slice none 0 0]) 2 32 Try.underlying22 hi hz0 hz1 hz2 rfl (by decide) V9 n9 cs rfl (by rw [HV9.out, HN9.out]; exact own_turn2 ((Turn.refl (fun _ => False) _).alloc _) O9.out.1 (fun _ _ h => h)) ⟨v9.heap.size, 0, none⟩ 1 1 [.int .i64 (x8 : Int), .slice S9 tl c9] rfl rfl (fun j u hu => by
               rw [show (⟨v9.heap.size, 0, none⟩ : Addr).add j = ⟨v9.heap.size, j, none⟩ by unfold Addr.add; split <;> simp_all, cell_of_row _ _ _ _ _ _ (heap_alloc_new v9 _), List.getElem?_toArray]; exact hu) (fun u hu => by simp at hu; rcases hu with rfl | rfl <;> rfl) (by unfold maxLen; omega) (by omega) (by have := E9.out.z; simp; omega) ?_
             intro v' wz own9 gr9 at9
             obtain ⟨gv, c9', ev', -, -⟩ := own9.form (by omega)
             subst ev'
             have t9 : Turn (fun i => some i = (Value.slice A9 n9 cA9).ownBlock) v9 wz := by rw [← HV9.out]; exact Turn.grown ((Turn.refl _ _).alloc _) gr9 (fun i _ e => e)
             have gz := t9.heap E9.out.t (fun e => by rw [HN9.out] at e; have := (O9.out.1.lt Z e.symm).1; omega)
             have cz : wz.cell? ⟨Z, 6, none⟩ = some (.slice A9 Lk.length cA9) := (row8 gz).1.2.2.2.2.2.2.1
             have zz : wz.frozen? ⟨Z, 6, none⟩ = false := (row8 gz).2.2.2.2.2.2.2.1
             have DP := Lib.hid (DSt.push (p := ⟨(x8 : Int), tx⟩) E9.out HW.out O9.out.1 O9.out.2 HB9.out HOK.out (by rw [← HN9.out]; exact t9) (by rw [← HN9.out, ← HTL.out]; exact own9))
             clear own9 gr9 at9 t9 gz))
        all_goals
          go_wp2_with fail
          go_roundw
          case rel =>
            refine ⟨j + 1, some ⟨gv, 0, none⟩, c9', by omega, by go_num, ?_⟩
            rw [HNX.out.1, HNX.out.2, ← HS8.out, ← HX8.out, ← HS9.out, ← HTX.out, HN9.out]
            exact DP.out
          case measure => simp [intOf]; omega
      · have hEX : itsS x6 r6 = itsS j r6 ∧ itsVs x6 r6 = itsVs j r6 := by
          by_cases he : (itsS j r6).e = 0
          · have : j = x6 := by
              have : ¬ j < x6 := fun h => hgo ⟨h, he⟩
              omega
            rw [this]; exact ⟨rfl, rfl⟩
          · exact itsS_stop he hj
        obtain ⟨r8, hr8⟩ : ∃ r, r = itsS x6 r6 := ⟨_, rfl⟩
        obtain ⟨L8, hL8⟩ : ∃ r, r = itsVs x6 r6 := ⟨_, rfl⟩
        obtain ⟨n8, hn8⟩ : ∃ n, n = L8.length := ⟨_, rfl⟩
        rw [← hEX.1, ← hEX.2, ← hr8, ← hL8] at hD
        rw [← hEX.1, ← hr8] at hgo
        have HS8 := Lib.hid hr8
        have HL8 := Lib.hid hL8
        have HN8 := Lib.hid hn8
        have D8 := Lib.hid hD
        have HGO := Lib.hid hgo
        obtain ⟨w8, hw8⟩ : ∃ w', w' = wr := ⟨_, rfl⟩
        subst hw8
        obtain ⟨Ay, cy, ny, ⟨y0, y1⟩, ⟨q0, q1⟩, -, -⟩ := hD.ys
        clear hD hEX hr8 hL8 hn8 hgo
        have c0 : w8.cell? ⟨Z, 0, none⟩ = some (.int .i64 3) := (row8 D8.out.t).1.1
        have c1 : w8.cell? ⟨Z, 1, none⟩ = some (.int .i64 (x2 : Int)) := (row8 D8.out.t).1.2.1
        have c2 : w8.cell? ⟨Z, 2, none⟩ = some (.int .i64 (x3 : Int)) := (row8 D8.out.t).1.2.2.1
        have c3 : w8.cell? ⟨Z, 3, none⟩ = some (.int .i64 (x4 : Int)) := (row8 D8.out.t).1.2.2.2.1
        have c4 : w8.cell? ⟨Z, 4, none⟩ = some (.int .i64 (x5 : Int)) := (row8 D8.out.t).1.2.2.2.2.1
        have c5 : w8.cell? ⟨Z, 5, none⟩ = some (.bool false) := (row8 D8.out.t).1.2.2.2.2.2.1
        have c6 : w8.cell? ⟨Z, 6, none⟩ = some (.slice A9 n8 cA9) := by rw [HN8.out]; exact (row8 D8.out.t).1.2.2.2.2.2.2.1
        have c7 : w8.cell? ⟨Z, 7, none⟩ = some (.slice none 0 0) := (row8 D8.out.t).1.2.2.2.2.2.2.2
        have z0 : w8.frozen? ⟨Z, 0, none⟩ = false := (row8 D8.out.t).2.1
        have z1 : w8.frozen? ⟨Z, 1, none⟩ = false := (row8 D8.out.t).2.2.1
        have z2 : w8.frozen? ⟨Z, 2, none⟩ = false := (row8 D8.out.t).2.2.2.1
        have z3 : w8.frozen? ⟨Z, 3, none⟩ = false := (row8 D8.out.t).2.2.2.2.1
        have z4 : w8.frozen? ⟨Z, 4, none⟩ = false := (row8 D8.out.t).2.2.2.2.2.1
        have z5 : w8.frozen? ⟨Z, 5, none⟩ = false := (row8 D8.out.t).2.2.2.2.2.2.1
        have z6 : w8.frozen? ⟨Z, 6, none⟩ = false := (row8 D8.out.t).2.2.2.2.2.2.2.1
        have z7 : w8.frozen? ⟨Z, 7, none⟩ = false := (row8 D8.out.t).2.2.2.2.2.2.2.2
        have FIN := Lib.hid (rd_fin (b := b) (s := r8) (lt := ⟨3, (x2 : Int), (x3 : Int), (x4 : Int), (x5 : Int), false, L8, []⟩) (by rw [← HRA.out]; exact hA0) (by rw [← HK.out]; decide) (by show bodS (k1 b) (s2 b) = r8; rw [← HK.out, show s2 b = (s1 b).num MX from rfl, ← HRA.out, ← HS2.out]; simp only [bodS]; simp [HS8.out, HX6.out, HS6.out, HS5.out, HS4.out, HS3.out]) (by rw [← HK.out, show s2 b = (s1 b).num MX from rfl, ← HRA.out, ← HS2.out, ← HX2.out]; simp only [bodV]; simp [HL8.out, HX6.out, HX5.out, HX4.out, HX3.out, HS6.out, HS5.out, HS4.out, HS3.out]))
        by_cases hlt : j < x6
        · have hk2 : decide ((j : Int) < (x6 : Int)) = true := by rw [decide_eq_true_eq]; omega
          have hk3 : decide (j < x6) = true := by rw [decide_eq_true_eq]; omega
          have he0 : ((r8.e : Int) == 0) = false := by rw [beq_eq_false_iff_ne]; intro h; exact HGO.out ⟨hlt, by omega⟩
          clear hlt
          go_upto_region 21 with fail
          clear y0 y1 q0 q1 hk2 hk3 he0
          obtain ⟨Ay, cy, ny, ⟨y0, y1⟩, ⟨q0, q1⟩, hny, hyr⟩ := D8.out.ys
          have HYR := Lib.hid hyr
          clear hyr
          by_cases he : r8.e = 0
          · have hny := hny he
            have y1' : w8.cell? ⟨W + 1, 1, none⟩ = some (.int .i64 0) := by rw [y1, he]; rfl
            clear y1
            by_cases hl : r8.l = []
            · obtain ⟨h1, h2⟩ := FIN.out.1 he hl
              have HRE := Lib.hid h1
              have HRV := Lib.hid h2
              have tn : decide (0 < (ny : Int)) = false := by rw [decide_eq_false_iff_not, hny, hl]; simp
              have tn2 : decide (0 < ny) = false := by rw [decide_eq_false_iff_not, hny, hl]; simp
              clear hny he hl h1 h2
              obtain ⟨⟨d0, d1, d2, d3, d4, d5, d6, d7⟩, u0, u1, u2, u3, u4, u5, u6, u7⟩ := row8 D8.out.r
              go_wp2_with fail
              have h5 := set8 D8.out.r (.int .i64 3) (.int .i64 (x2 : Int)) (.int .i64 (x3 : Int)) (.int .i64 (x4 : Int)) (.int .i64 (x5 : Int)) (.bool false) (.slice A9 n8 cA9) (.slice none 0 0)
              refine bodyPost_ret (v := .tuple #[.agg #[.int .i64 3, .int .i64 (x2 : Int), .int .i64 (x3 : Int), .int .i64 (x4 : Int), .int .i64 (x5 : Int), .bool false, .slice A9 n8 cA9, .slice none 0 0], .int .i64 0]) ?_ rfl ⟨A9, cA9, none, 0, by rw [HRV.out, HRE.out, HN8.out]; rfl, by rw [HRV.out]; exact D8.out.ltN (by refine ⟨?_, ?_, ?_, ?_, ?_⟩ <;> (unfold i64R; dsimp only; omega)) (Nat.zero_le _) _ (h5.2.mono (fun _ _ h => .inl h)), D8.out.n.trans h5.2 (fun i hi e => by have e : i = W := e; have := HW.out; omega)⟩
              exact results_lt Try.results16 _ _ W _ _ rfl rfl h5.1 rfl
            · obtain ⟨h1, h2⟩ := FIN.out.2.1 he hl
              have HRE := Lib.hid h1
              have HRV := Lib.hid h2
              have hlp : 0 < r8.l.length := List.length_pos_iff.2 hl
              have tn : decide (0 < (ny : Int)) = true := by rw [decide_eq_true_eq, hny]; omega
              have tn2 : decide (0 < ny) = true := by rw [decide_eq_true_eq, hny]; omega
              clear hny he hl h1 h2 hlp
              go_upto_region 25 with fail
              obtain ⟨we, hwe⟩ : ∃ w', w' = w8.setCell ⟨W + 1, 1, none⟩ (.int .i64 3) := ⟨_, rfl⟩
              have te := set_turn w8 (W + 1) 1 (.int .i64 3)
              rw [← hwe] at te ⊢
              have Re := te.heap D8.out.r (fun e => by have e : W = W + 1 := e; omega)
              have Ye : we.heap[W + 1]? = some (.cells #[.slice Ay ny cy, .int .i64 3] 61 (0, 0)) := by rw [hwe, heap_setCell_same w8 (W + 1) 1 _ _ _ HYR.out]; rfl
              have HTe := Lib.hid (D8.out.n.trans te (fun i hi e => by have e : i = W + 1 := e; have := HW.out; omega))
              obtain ⟨⟨-, y1⟩, -, q1⟩ := ys_row Ye
              have HRe := Lib.hid Re
              clear hwe te Ye Re c0 c1 c2 c3 c4 c5 c6 c7 z0 z1 z2 z3 z4 z5 z6 z7 y0 y1' q0
              go_upto_region 26 with fail
              refine wp_region_rel 130 Stp ((.one ?_) :: (.one ?_) :: (.one ?_) :: (.one ?_) :: (.one ?_) :: (.rel (fun _ _ => True)) :: (.one ?_) :: []) (by kernel_rfl) (by kernel_rfl) rfl (by kernel_rfl) Stp.refl Stp.trans ⟨fun _ _ _ _ _ => trivial, trivial⟩ ?main
              case main =>
                iterate 4
                  refine wpR_one (A' := ?_) Stp.refl (by rfl) _ rfl 130 (by rfl) (by rfl) ?_ ?_ ?_
                  rotate_left 1
                  · simp only [Act.put, List.setIfInBounds_toArray, List.set_cons_zero, List.set_cons_succ]; rfl
                  · intro w1 hs hf K hK
                    go_big_quiet_op
                    first
                      | go_big_quiet_on
                      | (refine ⟨_, fun _ _ => rfl, ?_⟩; go_big_quiet_on)
                    rfl
                refine wpR_one (A' := ?_) Stp.refl (by rfl) _ rfl 130 (by rfl) (by rfl) ?_ ?_ ?_
                rotate_left 1
                · simp only [Act.put, List.setIfInBounds_toArray, List.set_cons_zero, List.set_cons_succ]; rfl
                · intro w1 hs hf K hK
                  refine cls_load_cell 3 (.tmp 127) rfl ⟨W + 1, 1, none⟩ rfl (.int .i64 3) (fun w h => by simp [go_sem, h]) (fun w2 h2 => (Turn.of_below (stp_start (Stp.trans _ _ _ hs h2) (Below.refl _ _))).cell y1 (fun h => h)) ?_
                  refine hK _ ?_
                  simp only [Act.put, List.setIfInBounds_toArray, List.set_cons_zero, List.set_cons_succ]
                  rfl
                refine wpR_rel (A' := ?_) (by rfl) ?_ ?_ ?_
                · intro w1 hs hf
                  exact does_store_zl (.tmp 2) (.tmp 124) rfl rfl rfl ((show LBx _ W none 0 none 0 zL from HRe.out).turn (Turn.of_below (stp_start hs (Below.refl _ _))) (fun h => h))
                rotate_left 1
                · intro x
                  simp only [Act.put, List.setIfInBounds_toArray, List.set_cons_zero, List.set_cons_succ]; rfl
                intro x26
                iterate 1
                  refine wpR_one (A' := ?_) Stp.refl (by rfl) _ rfl 130 (by rfl) (by rfl) ?_ ?_ ?_
                  rotate_left 1
                  · simp only [Act.put, List.setIfInBounds_toArray, List.set_cons_zero, List.set_cons_succ]; rfl
                  · intro w1 hs hf K hK
                    go_big_quiet_op
                    first
                      | go_big_quiet_on
                      | (refine ⟨_, fun _ _ => rfl, ?_⟩; go_big_quiet_on)
                    rfl
                intro w9 hs hf
                have T9 := Lib.hid (Turn.of_below (stp_start hs (Below.refl _ _)))
                clear hs hf
                go_wp2_with fail
                refine bodyPost_ret (v := .tuple #[.agg ZLt, .int .i64 3]) ?_ rfl ⟨none, 0, none, 0, by (rw [HRV.out, HRE.out] <;> rfl), by rw [HRV.out]; exact zL_at _ _, HTe.out.trans T9.out (fun _ _ h => h)⟩
                exact results_lt Try.results16 _ _ W _ _ rfl rfl (T9.out.heap HRe.out (fun h => h)) rfl
          · obtain ⟨h1, h2⟩ := FIN.out.2.2 he
            have HRE := Lib.hid h1
            have HRV := Lib.hid h2
            have t1 : ((r8.e : Int) == 0) = false := by rw [beq_eq_false_iff_ne]; omega
            have t2 : ((r8.e : Int) != 0) = true := by simp; omega
            have HRe := Lib.hid D8.out.r
            have HTe := Lib.hid D8.out.n
            clear hny he h1 h2
            go_upto_region 26 with fail
            refine wp_region_rel 130 Stp ((.one ?_) :: (.one ?_) :: (.one ?_) :: (.one ?_) :: (.one ?_) :: (.rel (fun _ _ => True)) :: (.one ?_) :: []) (by kernel_rfl) (by kernel_rfl) rfl (by kernel_rfl) Stp.refl Stp.trans ⟨fun _ _ _ _ _ => trivial, trivial⟩ ?main
            case main =>
              iterate 4
                refine wpR_one (A' := ?_) Stp.refl (by rfl) _ rfl 130 (by rfl) (by rfl) ?_ ?_ ?_
                rotate_left 1
                · simp only [Act.put, List.setIfInBounds_toArray, List.set_cons_zero, List.set_cons_succ]; rfl
                · intro w1 hs hf K hK
                  go_big_quiet_op
                  first
                    | go_big_quiet_on
                    | (refine ⟨_, fun _ _ => rfl, ?_⟩; go_big_quiet_on)
                  rfl
              refine wpR_one (A' := ?_) Stp.refl (by rfl) _ rfl 130 (by rfl) (by rfl) ?_ ?_ ?_
              rotate_left 1
              · simp only [Act.put, List.setIfInBounds_toArray, List.set_cons_zero, List.set_cons_succ]; rfl
              · intro w1 hs hf K hK
                refine cls_load_cell 3 (.tmp 127) rfl ⟨W + 1, 1, none⟩ rfl (.int .i64 (r8.e : Int)) (fun w h => by simp [go_sem, h]) (fun w2 h2 => (Turn.of_below (stp_start (Stp.trans _ _ _ hs h2) (Below.refl _ _))).cell y1 (fun h => h)) ?_
                refine hK _ ?_
                simp only [Act.put, List.setIfInBounds_toArray, List.set_cons_zero, List.set_cons_succ]
                rfl
              refine wpR_rel (A' := ?_) (by rfl) ?_ ?_ ?_
              · intro w1 hs hf
                exact does_store_zl (.tmp 2) (.tmp 124) rfl rfl rfl ((show LBx _ W none 0 none 0 zL from HRe.out).turn (Turn.of_below (stp_start hs (Below.refl _ _))) (fun h => h))
              rotate_left 1
              · intro x
                simp only [Act.put, List.setIfInBounds_toArray, List.set_cons_zero, List.set_cons_succ]; rfl
              intro x26
              iterate 1
                refine wpR_one (A' := ?_) Stp.refl (by rfl) _ rfl 130 (by rfl) (by rfl) ?_ ?_ ?_
                rotate_left 1
                · simp only [Act.put, List.setIfInBounds_toArray, List.set_cons_zero, List.set_cons_succ]; rfl
                · intro w1 hs hf K hK
                  go_big_quiet_op
                  first
                    | go_big_quiet_on
                    | (refine ⟨_, fun _ _ => rfl, ?_⟩; go_big_quiet_on)
                  rfl
              intro w9 hs hf
              have T9 := Lib.hid (Turn.of_below (stp_start hs (Below.refl _ _)))
              clear hs hf
              go_wp2_with fail
              refine bodyPost_ret (v := .tuple #[.agg ZLt, .int .i64 (r8.e : Int)]) ?_ rfl ⟨none, 0, none, 0, by (rw [HRV.out, HRE.out] <;> rfl), by rw [HRV.out]; exact zL_at _ _, HTe.out.trans T9.out (fun _ _ h => h)⟩
              exact results_lt Try.results16 _ _ W _ _ rfl rfl (T9.out.heap HRe.out (fun h => h)) rfl
        · have hk2 : decide ((j : Int) < (x6 : Int)) = false := by rw [decide_eq_false_iff_not]; omega
          have hk3 : decide (j < x6) = false := by rw [decide_eq_false_iff_not]; omega
          clear hlt
          go_upto_region 21 with fail
          clear y0 y1 q0 q1 hk2 hk3
          obtain ⟨Ay, cy, ny, ⟨y0, y1⟩, ⟨q0, q1⟩, hny, hyr⟩ := D8.out.ys
          have HYR := Lib.hid hyr
          clear hyr
          by_cases he : r8.e = 0
          · have hny := hny he
            have y1' : w8.cell? ⟨W + 1, 1, none⟩ = some (.int .i64 0) := by rw [y1, he]; rfl
            clear y1
            by_cases hl : r8.l = []
            · obtain ⟨h1, h2⟩ := FIN.out.1 he hl
              have HRE := Lib.hid h1
              have HRV := Lib.hid h2
              have tn : decide (0 < (ny : Int)) = false := by rw [decide_eq_false_iff_not, hny, hl]; simp
              have tn2 : decide (0 < ny) = false := by rw [decide_eq_false_iff_not, hny, hl]; simp
              clear hny he hl h1 h2
              obtain ⟨⟨d0, d1, d2, d3, d4, d5, d6, d7⟩, u0, u1, u2, u3, u4, u5, u6, u7⟩ := row8 D8.out.r
              go_wp2_with fail
              have h5 := set8 D8.out.r (.int .i64 3) (.int .i64 (x2 : Int)) (.int .i64 (x3 : Int)) (.int .i64 (x4 : Int)) (.int .i64 (x5 : Int)) (.bool false) (.slice A9 n8 cA9) (.slice none 0 0)
              refine bodyPost_ret (v := .tuple #[.agg #[.int .i64 3, .int .i64 (x2 : Int), .int .i64 (x3 : Int), .int .i64 (x4 : Int), .int .i64 (x5 : Int), .bool false, .slice A9 n8 cA9, .slice none 0 0], .int .i64 0]) ?_ rfl ⟨A9, cA9, none, 0, by rw [HRV.out, HRE.out, HN8.out]; rfl, by rw [HRV.out]; exact D8.out.ltN (by refine ⟨?_, ?_, ?_, ?_, ?_⟩ <;> (unfold i64R; dsimp only; omega)) (Nat.zero_le _) _ (h5.2.mono (fun _ _ h => .inl h)), D8.out.n.trans h5.2 (fun i hi e => by have e : i = W := e; have := HW.out; omega)⟩
              exact results_lt Try.results16 _ _ W _ _ rfl rfl h5.1 rfl
            · obtain ⟨h1, h2⟩ := FIN.out.2.1 he hl
              have HRE := Lib.hid h1
              have HRV := Lib.hid h2
              have hlp : 0 < r8.l.length := List.length_pos_iff.2 hl
              have tn : decide (0 < (ny : Int)) = true := by rw [decide_eq_true_eq, hny]; omega
              have tn2 : decide (0 < ny) = true := by rw [decide_eq_true_eq, hny]; omega
              clear hny he hl h1 h2 hlp
              go_upto_region 25 with fail
              obtain ⟨we, hwe⟩ : ∃ w', w' = w8.setCell ⟨W + 1, 1, none⟩ (.int .i64 3) := ⟨_, rfl⟩
              have te := set_turn w8 (W + 1) 1 (.int .i64 3)
              rw [← hwe] at te ⊢
              have Re := te.heap D8.out.r (fun e => by have e : W = W + 1 := e; omega)
              have Ye : we.heap[W + 1]? = some (.cells #[.slice Ay ny cy, .int .i64 3] 61 (0, 0)) := by rw [hwe, heap_setCell_same w8 (W + 1) 1 _ _ _ HYR.out]; rfl
              have HTe := Lib.hid (D8.out.n.trans te (fun i hi e => by have e : i = W + 1 := e; have := HW.out; omega))
              obtain ⟨⟨-, y1⟩, -, q1⟩ := ys_row Ye
              have HRe := Lib.hid Re
              clear hwe te Ye Re c0 c1 c2 c3 c4 c5 c6 c7 z0 z1 z2 z3 z4 z5 z6 z7 y0 y1' q0
              go_upto_region 26 with fail
              refine wp_region_rel 130 Stp ((.one ?_) :: (.one ?_) :: (.one ?_) :: (.one ?_) :: (.one ?_) :: (.rel (fun _ _ => True)) :: (.one ?_) :: []) (by kernel_rfl) (by kernel_rfl) rfl (by kernel_rfl) Stp.refl Stp.trans ⟨fun _ _ _ _ _ => trivial, trivial⟩ ?main
              case main =>
                iterate 4
                  refine wpR_one (A' := ?_) Stp.refl (by rfl) _ rfl 130 (by rfl) (by rfl) ?_ ?_ ?_
                  rotate_left 1
                  · simp only [Act.put, List.setIfInBounds_toArray, List.set_cons_zero, List.set_cons_succ]; rfl
                  · intro w1 hs hf K hK
                    go_big_quiet_op
                    first
                      | go_big_quiet_on
                      | (refine ⟨_, fun _ _ => rfl, ?_⟩; go_big_quiet_on)
                    rfl
                refine wpR_one (A' := ?_) Stp.refl (by rfl) _ rfl 130 (by rfl) (by rfl) ?_ ?_ ?_
                rotate_left 1
                · simp only [Act.put, List.setIfInBounds_toArray, List.set_cons_zero, List.set_cons_succ]; rfl
                · intro w1 hs hf K hK
                  refine cls_load_cell 3 (.tmp 127) rfl ⟨W + 1, 1, none⟩ rfl (.int .i64 3) (fun w h => by simp [go_sem, h]) (fun w2 h2 => (Turn.of_below (stp_start (Stp.trans _ _ _ hs h2) (Below.refl _ _))).cell y1 (fun h => h)) ?_
                  refine hK _ ?_
                  simp only [Act.put, List.setIfInBounds_toArray, List.set_cons_zero, List.set_cons_succ]
                  rfl
                refine wpR_rel (A' := ?_) (by rfl) ?_ ?_ ?_
                · intro w1 hs hf
                  exact does_store_zl (.tmp 2) (.tmp 124) rfl rfl rfl ((show LBx _ W none 0 none 0 zL from HRe.out).turn (Turn.of_below (stp_start hs (Below.refl _ _))) (fun h => h))
                rotate_left 1
                · intro x
                  simp only [Act.put, List.setIfInBounds_toArray, List.set_cons_zero, List.set_cons_succ]; rfl
                intro x26
                iterate 1
                  refine wpR_one (A' := ?_) Stp.refl (by rfl) _ rfl 130 (by rfl) (by rfl) ?_ ?_ ?_
                  rotate_left 1
                  · simp only [Act.put, List.setIfInBounds_toArray, List.set_cons_zero, List.set_cons_succ]; rfl
                  · intro w1 hs hf K hK
                    go_big_quiet_op
                    first
                      | go_big_quiet_on
                      | (refine ⟨_, fun _ _ => rfl, ?_⟩; go_big_quiet_on)
                    rfl
                intro w9 hs hf
                have T9 := Lib.hid (Turn.of_below (stp_start hs (Below.refl _ _)))
                clear hs hf
                go_wp2_with fail
                refine bodyPost_ret (v := .tuple #[.agg ZLt, .int .i64 3]) ?_ rfl ⟨none, 0, none, 0, by (rw [HRV.out, HRE.out] <;> rfl), by rw [HRV.out]; exact zL_at _ _, HTe.out.trans T9.out (fun _ _ h => h)⟩
                exact results_lt Try.results16 _ _ W _ _ rfl rfl (T9.out.heap HRe.out (fun h => h)) rfl
          · obtain ⟨h1, h2⟩ := FIN.out.2.2 he
            have HRE := Lib.hid h1
            have HRV := Lib.hid h2
            have t1 : ((r8.e : Int) == 0) = false := by rw [beq_eq_false_iff_ne]; omega
            have t2 : ((r8.e : Int) != 0) = true := by simp; omega
            have HRe := Lib.hid D8.out.r
            have HTe := Lib.hid D8.out.n
            clear hny he h1 h2
            go_upto_region 26 with fail
            refine wp_region_rel 130 Stp ((.one ?_) :: (.one ?_) :: (.one ?_) :: (.one ?_) :: (.one ?_) :: (.rel (fun _ _ => True)) :: (.one ?_) :: []) (by kernel_rfl) (by kernel_rfl) rfl (by kernel_rfl) Stp.refl Stp.trans ⟨fun _ _ _ _ _ => trivial, trivial⟩ ?main
            case main =>
              iterate 4
                refine wpR_one (A' := ?_) Stp.refl (by rfl) _ rfl 130 (by rfl) (by rfl) ?_ ?_ ?_
                rotate_left 1
                · simp only [Act.put, List.setIfInBounds_toArray, List.set_cons_zero, List.set_cons_succ]; rfl
                · intro w1 hs hf K hK
                  go_big_quiet_op
                  first
                    | go_big_quiet_on
                    | (refine ⟨_, fun _ _ => rfl, ?_⟩; go_big_quiet_on)
                  rfl
              refine wpR_one (A' := ?_) Stp.refl (by rfl) _ rfl 130 (by rfl) (by rfl) ?_ ?_ ?_
              rotate_left 1
              · simp only [Act.put, List.setIfInBounds_toArray, List.set_cons_zero, List.set_cons_succ]; rfl
              · intro w1 hs hf K hK
                refine cls_load_cell 3 (.tmp 127) rfl ⟨W + 1, 1, none⟩ rfl (.int .i64 (r8.e : Int)) (fun w h => by simp [go_sem, h]) (fun w2 h2 => (Turn.of_below (stp_start (Stp.trans _ _ _ hs h2) (Below.refl _ _))).cell y1 (fun h => h)) ?_
                refine hK _ ?_
                simp only [Act.put, List.setIfInBounds_toArray, List.set_cons_zero, List.set_cons_succ]
                rfl
              refine wpR_rel (A' := ?_) (by rfl) ?_ ?_ ?_
              · intro w1 hs hf
                exact does_store_zl (.tmp 2) (.tmp 124) rfl rfl rfl ((show LBx _ W none 0 none 0 zL from HRe.out).turn (Turn.of_below (stp_start hs (Below.refl _ _))) (fun h => h))
              rotate_left 1
              · intro x
                simp only [Act.put, List.setIfInBounds_toArray, List.set_cons_zero, List.set_cons_succ]; rfl
              intro x26
              iterate 1
                refine wpR_one (A' := ?_) Stp.refl (by rfl) _ rfl 130 (by rfl) (by rfl) ?_ ?_ ?_
                rotate_left 1
                · simp only [Act.put, List.setIfInBounds_toArray, List.set_cons_zero, List.set_cons_succ]; rfl
                · intro w1 hs hf K hK
                  go_big_quiet_op
                  first
                    | go_big_quiet_on
                    | (refine ⟨_, fun _ _ => rfl, ?_⟩; go_big_quiet_on)
                  rfl
              intro w9 hs hf
              have T9 := Lib.hid (Turn.of_below (stp_start hs (Below.refl _ _)))
              clear hs hf
              go_wp2_with fail
              refine bodyPost_ret (v := .tuple #[.agg ZLt, .int .i64 (r8.e : Int)]) ?_ rfl ⟨none, 0, none, 0, by (rw [HRV.out, HRE.out] <;> rfl), by rw [HRV.out]; exact zL_at _ _, HTe.out.trans T9.out (fun _ _ h => h)⟩
              exact results_lt Try.results16 _ _ W _ _ rfl rfl (T9.out.heap HRe.out (fun h => h)) rfl
  · have D1 := Lib.hid (show DSt W Z w w1 rA none 0 none 0 ⟨4, 0, 0, 0, 0, false, [], []⟩ from D1.out)
    have c0 : w1.cell? ⟨Z, 0, none⟩ = some (.int .i64 4) := (row8 D1.out.t).1.1
    have c1 : w1.cell? ⟨Z, 1, none⟩ = some (.int .i64 0) := (row8 D1.out.t).1.2.1
    have c2 : w1.cell? ⟨Z, 2, none⟩ = some (.int .i64 0) := (row8 D1.out.t).1.2.2.1
    have c3 : w1.cell? ⟨Z, 3, none⟩ = some (.int .i64 0) := (row8 D1.out.t).1.2.2.2.1
    have c4 : w1.cell? ⟨Z, 4, none⟩ = some (.int .i64 0) := (row8 D1.out.t).1.2.2.2.2.1
    have c5 : w1.cell? ⟨Z, 5, none⟩ = some (.bool false) := (row8 D1.out.t).1.2.2.2.2.2.1
    have c6 : w1.cell? ⟨Z, 6, none⟩ = some (.slice none 0 0) := (row8 D1.out.t).1.2.2.2.2.2.2.1
    have c7 : w1.cell? ⟨Z, 7, none⟩ = some (.slice none 0 0) := (row8 D1.out.t).1.2.2.2.2.2.2.2
    have z0 : w1.frozen? ⟨Z, 0, none⟩ = false := (row8 D1.out.t).2.1
    have z1 : w1.frozen? ⟨Z, 1, none⟩ = false := (row8 D1.out.t).2.2.1
    have z2 : w1.frozen? ⟨Z, 2, none⟩ = false := (row8 D1.out.t).2.2.2.1
    have z3 : w1.frozen? ⟨Z, 3, none⟩ = false := (row8 D1.out.t).2.2.2.2.1
    have z4 : w1.frozen? ⟨Z, 4, none⟩ = false := (row8 D1.out.t).2.2.2.2.2.1
    have z5 : w1.frozen? ⟨Z, 5, none⟩ = false := (row8 D1.out.t).2.2.2.2.2.2.1
    have z6 : w1.frozen? ⟨Z, 6, none⟩ = false := (row8 D1.out.t).2.2.2.2.2.2.2.1
    have z7 : w1.frozen? ⟨Z, 7, none⟩ = false := (row8 D1.out.t).2.2.2.2.2.2.2.2
    have T := enum_any (fun i => W ≤ i) (W + 1) rA.e 1099511627776 rA.l w1 D1.out.y hWy (HN.out w1 (by have := D1.out.z; have := D1.out.q; omega)) (by decide)
    change Calls _ _ _ _ (fun r w' => r = .returned (.int .i64 ((rA.nv MX : Nat) : Int)) ∧ YS w' _ _ (rA.num MX).e (rA.num MX).l ∧ _) at T
    obtain ⟨x2, hx⟩ : ∃ x, x = rA.nv MX := ⟨_, rfl⟩
    obtain ⟨r2, hs⟩ : ∃ s, s = rA.num MX := ⟨_, rfl⟩
    rw [← hx, ← hs] at T
    have bx2 : x2 ≤ 1099511627776 := by rw [hx]; exact Nat.le_trans (nv_le _ _) (by decide)
    have HX2 := Lib.hid hx
    have HS2 := Lib.hid hs
    have T := Lib.hid T
    clear hx hs
    go_wp2_with fail
    refine T.out.mono ?_
    rintro r v2 ⟨rfl, hy, t⟩
    have E2 := Lib.hid (D1.out.num HW.out hy t)
    clear hy t T c0 c1 c2 c3 c4 c5 c6 c7 z0 z1 z2 z3 z4 z5 z6 z7
    have c0 : v2.cell? ⟨Z, 0, none⟩ = some (.int .i64 4) := (row8 E2.out.t).1.1
    have c1 : v2.cell? ⟨Z, 1, none⟩ = some (.int .i64 0) := (row8 E2.out.t).1.2.1
    have c2 : v2.cell? ⟨Z, 2, none⟩ = some (.int .i64 0) := (row8 E2.out.t).1.2.2.1
    have c3 : v2.cell? ⟨Z, 3, none⟩ = some (.int .i64 0) := (row8 E2.out.t).1.2.2.2.1
    have c4 : v2.cell? ⟨Z, 4, none⟩ = some (.int .i64 0) := (row8 E2.out.t).1.2.2.2.2.1
    have c5 : v2.cell? ⟨Z, 5, none⟩ = some (.bool false) := (row8 E2.out.t).1.2.2.2.2.2.1
    have c6 : v2.cell? ⟨Z, 6, none⟩ = some (.slice none 0 0) := (row8 E2.out.t).1.2.2.2.2.2.2.1
    have c7 : v2.cell? ⟨Z, 7, none⟩ = some (.slice none 0 0) := (row8 E2.out.t).1.2.2.2.2.2.2.2
    have z0 : v2.frozen? ⟨Z, 0, none⟩ = false := (row8 E2.out.t).2.1
    have z1 : v2.frozen? ⟨Z, 1, none⟩ = false := (row8 E2.out.t).2.2.1
    have z2 : v2.frozen? ⟨Z, 2, none⟩ = false := (row8 E2.out.t).2.2.2.1
    have z3 : v2.frozen? ⟨Z, 3, none⟩ = false := (row8 E2.out.t).2.2.2.2.1
    have z4 : v2.frozen? ⟨Z, 4, none⟩ = false := (row8 E2.out.t).2.2.2.2.2.1
    have z5 : v2.frozen? ⟨Z, 5, none⟩ = false := (row8 E2.out.t).2.2.2.2.2.2.1
    have z6 : v2.frozen? ⟨Z, 6, none⟩ = false := (row8 E2.out.t).2.2.2.2.2.2.2.1
    have z7 : v2.frozen? ⟨Z, 7, none⟩ = false := (row8 E2.out.t).2.2.2.2.2.2.2.2
    go_upto_region 6 with fail
    obtain ⟨w2, hw⟩ : ∃ w', w' = v2.setCell ⟨Z, 1, none⟩ (.int .i64 (x2 : Int)) := ⟨_, rfl⟩
    have D2 := Lib.hid (show DSt W Z w w2 r2 none 0 none 0 ⟨4, (x2 : Int), 0, 0, 0, false, [], []⟩ by rw [hw]; exact E2.out.set HW.out 1 _ _ _ _ _ rfl ⟨rfl, rfl, rfl⟩ E2.out.b)
    rw [← hw]
    clear hw E2 c0 c1 c2 c3 c4 c5 c6 c7 z0 z1 z2 z3 z4 z5 z6 z7
    have c0 : w2.cell? ⟨Z, 0, none⟩ = some (.int .i64 4) := (row8 D2.out.t).1.1
    have c1 : w2.cell? ⟨Z, 1, none⟩ = some (.int .i64 (x2 : Int)) := (row8 D2.out.t).1.2.1
    have c2 : w2.cell? ⟨Z, 2, none⟩ = some (.int .i64 0) := (row8 D2.out.t).1.2.2.1
    have c3 : w2.cell? ⟨Z, 3, none⟩ = some (.int .i64 0) := (row8 D2.out.t).1.2.2.2.1
    have c4 : w2.cell? ⟨Z, 4, none⟩ = some (.int .i64 0) := (row8 D2.out.t).1.2.2.2.2.1
    have c5 : w2.cell? ⟨Z, 5, none⟩ = some (.bool false) := (row8 D2.out.t).1.2.2.2.2.2.1
    have c6 : w2.cell? ⟨Z, 6, none⟩ = some (.slice none 0 0) := (row8 D2.out.t).1.2.2.2.2.2.2.1
    have c7 : w2.cell? ⟨Z, 7, none⟩ = some (.slice none 0 0) := (row8 D2.out.t).1.2.2.2.2.2.2.2
    have z0 : w2.frozen? ⟨Z, 0, none⟩ = false := (row8 D2.out.t).2.1
    have z1 : w2.frozen? ⟨Z, 1, none⟩ = false := (row8 D2.out.t).2.2.1
    have z2 : w2.frozen? ⟨Z, 2, none⟩ = false := (row8 D2.out.t).2.2.2.1
    have z3 : w2.frozen? ⟨Z, 3, none⟩ = false := (row8 D2.out.t).2.2.2.2.1
    have z4 : w2.frozen? ⟨Z, 4, none⟩ = false := (row8 D2.out.t).2.2.2.2.2.1
    have z5 : w2.frozen? ⟨Z, 5, none⟩ = false := (row8 D2.out.t).2.2.2.2.2.2.1
    have z6 : w2.frozen? ⟨Z, 6, none⟩ = false := (row8 D2.out.t).2.2.2.2.2.2.2.1
    have z7 : w2.frozen? ⟨Z, 7, none⟩ = false := (row8 D2.out.t).2.2.2.2.2.2.2.2
    have T := enum_any (fun i => W ≤ i) (W + 1) r2.e 1 r2.l w2 D2.out.y hWy (HN.out w2 (by have := D2.out.z; have := D2.out.q; omega)) (by decide)
    change Calls _ _ _ _ (fun r w' => r = .returned (.int .i64 ((r2.nv 1 : Nat) : Int)) ∧ YS w' _ _ (r2.num 1).e (r2.num 1).l ∧ _) at T
    obtain ⟨x3, hx⟩ : ∃ x, x = r2.nv 1 := ⟨_, rfl⟩
    obtain ⟨r3, hs⟩ : ∃ s, s = r2.num 1 := ⟨_, rfl⟩
    rw [← hx, ← hs] at T
    have bx3 : x3 ≤ 1099511627776 := by rw [hx]; exact Nat.le_trans (nv_le _ _) (by decide)
    have HX3 := Lib.hid hx
    have HS3 := Lib.hid hs
    have T := Lib.hid T
    clear hx hs
    go_wp2_with fail
    refine T.out.mono ?_
    rintro r v3 ⟨rfl, hy, t⟩
    have E3 := Lib.hid (D2.out.num HW.out hy t)
    clear hy t T c0 c1 c2 c3 c4 c5 c6 c7 z0 z1 z2 z3 z4 z5 z6 z7
    have c0 : v3.cell? ⟨Z, 0, none⟩ = some (.int .i64 4) := (row8 E3.out.t).1.1
    have c1 : v3.cell? ⟨Z, 1, none⟩ = some (.int .i64 (x2 : Int)) := (row8 E3.out.t).1.2.1
    have c2 : v3.cell? ⟨Z, 2, none⟩ = some (.int .i64 0) := (row8 E3.out.t).1.2.2.1
    have c3 : v3.cell? ⟨Z, 3, none⟩ = some (.int .i64 0) := (row8 E3.out.t).1.2.2.2.1
    have c4 : v3.cell? ⟨Z, 4, none⟩ = some (.int .i64 0) := (row8 E3.out.t).1.2.2.2.2.1
    have c5 : v3.cell? ⟨Z, 5, none⟩ = some (.bool false) := (row8 E3.out.t).1.2.2.2.2.2.1
    have c6 : v3.cell? ⟨Z, 6, none⟩ = some (.slice none 0 0) := (row8 E3.out.t).1.2.2.2.2.2.2.1
    have c7 : v3.cell? ⟨Z, 7, none⟩ = some (.slice none 0 0) := (row8 E3.out.t).1.2.2.2.2.2.2.2
    have z0 : v3.frozen? ⟨Z, 0, none⟩ = false := (row8 E3.out.t).2.1
    have z1 : v3.frozen? ⟨Z, 1, none⟩ = false := (row8 E3.out.t).2.2.1
    have z2 : v3.frozen? ⟨Z, 2, none⟩ = false := (row8 E3.out.t).2.2.2.1
    have z3 : v3.frozen? ⟨Z, 3, none⟩ = false := (row8 E3.out.t).2.2.2.2.1
    have z4 : v3.frozen? ⟨Z, 4, none⟩ = false := (row8 E3.out.t).2.2.2.2.2.1
    have z5 : v3.frozen? ⟨Z, 5, none⟩ = false := (row8 E3.out.t).2.2.2.2.2.2.1
    have z6 : v3.frozen? ⟨Z, 6, none⟩ = false := (row8 E3.out.t).2.2.2.2.2.2.2.1
    have z7 : v3.frozen? ⟨Z, 7, none⟩ = false := (row8 E3.out.t).2.2.2.2.2.2.2.2
    obtain ⟨q3, hq⟩ : ∃ q, q = yesB x3 := ⟨_, rfl⟩
    have hq3 : ((x3 : Int) == 1) = q3 := by rw [hq]; rfl
    have HQ3 := Lib.hid hq
    clear hq
    go_upto_region 8 with fail
    obtain ⟨w3, hw⟩ : ∃ w', w' = v3.setCell ⟨Z, 5, none⟩ (.bool q3) := ⟨_, rfl⟩
    have D3 := Lib.hid (show DSt W Z w w3 r3 none 0 none 0 ⟨4, (x2 : Int), 0, 0, 0, q3, [], []⟩ by rw [hw]; exact E3.out.set HW.out 5 _ _ _ _ _ rfl ⟨rfl, rfl, rfl⟩ E3.out.b)
    rw [← hw]
    clear hw E3 c0 c1 c2 c3 c4 c5 c6 c7 z0 z1 z2 z3 z4 z5 z6 z7
    clear hq3
    have c0 : w3.cell? ⟨Z, 0, none⟩ = some (.int .i64 4) := (row8 D3.out.t).1.1
    have c1 : w3.cell? ⟨Z, 1, none⟩ = some (.int .i64 (x2 : Int)) := (row8 D3.out.t).1.2.1
    have c2 : w3.cell? ⟨Z, 2, none⟩ = some (.int .i64 0) := (row8 D3.out.t).1.2.2.1
    have c3 : w3.cell? ⟨Z, 3, none⟩ = some (.int .i64 0) := (row8 D3.out.t).1.2.2.2.1
    have c4 : w3.cell? ⟨Z, 4, none⟩ = some (.int .i64 0) := (row8 D3.out.t).1.2.2.2.2.1
    have c5 : w3.cell? ⟨Z, 5, none⟩ = some (.bool q3) := (row8 D3.out.t).1.2.2.2.2.2.1
    have c6 : w3.cell? ⟨Z, 6, none⟩ = some (.slice none 0 0) := (row8 D3.out.t).1.2.2.2.2.2.2.1
    have c7 : w3.cell? ⟨Z, 7, none⟩ = some (.slice none 0 0) := (row8 D3.out.t).1.2.2.2.2.2.2.2
    have z0 : w3.frozen? ⟨Z, 0, none⟩ = false := (row8 D3.out.t).2.1
    have z1 : w3.frozen? ⟨Z, 1, none⟩ = false := (row8 D3.out.t).2.2.1
    have z2 : w3.frozen? ⟨Z, 2, none⟩ = false := (row8 D3.out.t).2.2.2.1
    have z3 : w3.frozen? ⟨Z, 3, none⟩ = false := (row8 D3.out.t).2.2.2.2.1
    have z4 : w3.frozen? ⟨Z, 4, none⟩ = false := (row8 D3.out.t).2.2.2.2.2.1
    have z5 : w3.frozen? ⟨Z, 5, none⟩ = false := (row8 D3.out.t).2.2.2.2.2.2.1
    have z6 : w3.frozen? ⟨Z, 6, none⟩ = false := (row8 D3.out.t).2.2.2.2.2.2.2.1
    have z7 : w3.frozen? ⟨Z, 7, none⟩ = false := (row8 D3.out.t).2.2.2.2.2.2.2.2
    have T := enum_any (fun i => W ≤ i) (W + 1) r3.e 1099511627776 r3.l w3 D3.out.y hWy (HN.out w3 (by have := D3.out.z; have := D3.out.q; omega)) (by decide)
    change Calls _ _ _ _ (fun r w' => r = .returned (.int .i64 ((r3.nv MX : Nat) : Int)) ∧ YS w' _ _ (r3.num MX).e (r3.num MX).l ∧ _) at T
    obtain ⟨x4, hx⟩ : ∃ x, x = r3.nv MX := ⟨_, rfl⟩
    obtain ⟨r4, hs⟩ : ∃ s, s = r3.num MX := ⟨_, rfl⟩
    rw [← hx, ← hs] at T
    have bx4 : x4 ≤ 1099511627776 := by rw [hx]; exact Nat.le_trans (nv_le _ _) (by decide)
    have HX4 := Lib.hid hx
    have HS4 := Lib.hid hs
    have T := Lib.hid T
    clear hx hs
    go_wp2_with fail
    refine T.out.mono ?_
    rintro r v4 ⟨rfl, hy, t⟩
    have E4 := Lib.hid (D3.out.num HW.out hy t)
    clear hy t T c0 c1 c2 c3 c4 c5 c6 c7 z0 z1 z2 z3 z4 z5 z6 z7
    have c0 : v4.cell? ⟨Z, 0, none⟩ = some (.int .i64 4) := (row8 E4.out.t).1.1
    have c1 : v4.cell? ⟨Z, 1, none⟩ = some (.int .i64 (x2 : Int)) := (row8 E4.out.t).1.2.1
    have c2 : v4.cell? ⟨Z, 2, none⟩ = some (.int .i64 0) := (row8 E4.out.t).1.2.2.1
    have c3 : v4.cell? ⟨Z, 3, none⟩ = some (.int .i64 0) := (row8 E4.out.t).1.2.2.2.1
    have c4 : v4.cell? ⟨Z, 4, none⟩ = some (.int .i64 0) := (row8 E4.out.t).1.2.2.2.2.1
    have c5 : v4.cell? ⟨Z, 5, none⟩ = some (.bool q3) := (row8 E4.out.t).1.2.2.2.2.2.1
    have c6 : v4.cell? ⟨Z, 6, none⟩ = some (.slice none 0 0) := (row8 E4.out.t).1.2.2.2.2.2.2.1
    have c7 : v4.cell? ⟨Z, 7, none⟩ = some (.slice none 0 0) := (row8 E4.out.t).1.2.2.2.2.2.2.2
    have z0 : v4.frozen? ⟨Z, 0, none⟩ = false := (row8 E4.out.t).2.1
    have z1 : v4.frozen? ⟨Z, 1, none⟩ = false := (row8 E4.out.t).2.2.1
    have z2 : v4.frozen? ⟨Z, 2, none⟩ = false := (row8 E4.out.t).2.2.2.1
    have z3 : v4.frozen? ⟨Z, 3, none⟩ = false := (row8 E4.out.t).2.2.2.2.1
    have z4 : v4.frozen? ⟨Z, 4, none⟩ = false := (row8 E4.out.t).2.2.2.2.2.1
    have z5 : v4.frozen? ⟨Z, 5, none⟩ = false := (row8 E4.out.t).2.2.2.2.2.2.1
    have z6 : v4.frozen? ⟨Z, 6, none⟩ = false := (row8 E4.out.t).2.2.2.2.2.2.2.1
    have z7 : v4.frozen? ⟨Z, 7, none⟩ = false := (row8 E4.out.t).2.2.2.2.2.2.2.2
    go_upto_region 10 with fail
    obtain ⟨w4, hw⟩ : ∃ w', w' = v4.setCell ⟨Z, 2, none⟩ (.int .i64 (x4 : Int)) := ⟨_, rfl⟩
    have D4 := Lib.hid (show DSt W Z w w4 r4 none 0 none 0 ⟨4, (x2 : Int), (x4 : Int), 0, 0, q3, [], []⟩ by rw [hw]; exact E4.out.set HW.out 2 _ _ _ _ _ rfl ⟨rfl, rfl, rfl⟩ E4.out.b)
    rw [← hw]
    clear hw E4 c0 c1 c2 c3 c4 c5 c6 c7 z0 z1 z2 z3 z4 z5 z6 z7
    have c0 : w4.cell? ⟨Z, 0, none⟩ = some (.int .i64 4) := (row8 D4.out.t).1.1
    have c1 : w4.cell? ⟨Z, 1, none⟩ = some (.int .i64 (x2 : Int)) := (row8 D4.out.t).1.2.1
    have c2 : w4.cell? ⟨Z, 2, none⟩ = some (.int .i64 (x4 : Int)) := (row8 D4.out.t).1.2.2.1
    have c3 : w4.cell? ⟨Z, 3, none⟩ = some (.int .i64 0) := (row8 D4.out.t).1.2.2.2.1
    have c4 : w4.cell? ⟨Z, 4, none⟩ = some (.int .i64 0) := (row8 D4.out.t).1.2.2.2.2.1
    have c5 : w4.cell? ⟨Z, 5, none⟩ = some (.bool q3) := (row8 D4.out.t).1.2.2.2.2.2.1
    have c6 : w4.cell? ⟨Z, 6, none⟩ = some (.slice none 0 0) := (row8 D4.out.t).1.2.2.2.2.2.2.1
    have c7 : w4.cell? ⟨Z, 7, none⟩ = some (.slice none 0 0) := (row8 D4.out.t).1.2.2.2.2.2.2.2
    have z0 : w4.frozen? ⟨Z, 0, none⟩ = false := (row8 D4.out.t).2.1
    have z1 : w4.frozen? ⟨Z, 1, none⟩ = false := (row8 D4.out.t).2.2.1
    have z2 : w4.frozen? ⟨Z, 2, none⟩ = false := (row8 D4.out.t).2.2.2.1
    have z3 : w4.frozen? ⟨Z, 3, none⟩ = false := (row8 D4.out.t).2.2.2.2.1
    have z4 : w4.frozen? ⟨Z, 4, none⟩ = false := (row8 D4.out.t).2.2.2.2.2.1
    have z5 : w4.frozen? ⟨Z, 5, none⟩ = false := (row8 D4.out.t).2.2.2.2.2.2.1
    have z6 : w4.frozen? ⟨Z, 6, none⟩ = false := (row8 D4.out.t).2.2.2.2.2.2.2.1
    have z7 : w4.frozen? ⟨Z, 7, none⟩ = false := (row8 D4.out.t).2.2.2.2.2.2.2.2
    have T := enum_any (fun i => W ≤ i) (W + 1) r4.e 1099511627776 r4.l w4 D4.out.y hWy (HN.out w4 (by have := D4.out.z; have := D4.out.q; omega)) (by decide)
    change Calls _ _ _ _ (fun r w' => r = .returned (.int .i64 ((r4.nv MX : Nat) : Int)) ∧ YS w' _ _ (r4.num MX).e (r4.num MX).l ∧ _) at T
    obtain ⟨x5, hx⟩ : ∃ x, x = r4.nv MX := ⟨_, rfl⟩
    obtain ⟨r5, hs⟩ : ∃ s, s = r4.num MX := ⟨_, rfl⟩
    rw [← hx, ← hs] at T
    have bx5 : x5 ≤ 1099511627776 := by rw [hx]; exact Nat.le_trans (nv_le _ _) (by decide)
    have HX5 := Lib.hid hx
    have HS5 := Lib.hid hs
    have T := Lib.hid T
    clear hx hs
    go_wp2_with fail
    refine T.out.mono ?_
    rintro r v5 ⟨rfl, hy, t⟩
    have E5 := Lib.hid (D4.out.num HW.out hy t)
    clear hy t T c0 c1 c2 c3 c4 c5 c6 c7 z0 z1 z2 z3 z4 z5 z6 z7
    have c0 : v5.cell? ⟨Z, 0, none⟩ = some (.int .i64 4) := (row8 E5.out.t).1.1
    have c1 : v5.cell? ⟨Z, 1, none⟩ = some (.int .i64 (x2 : Int)) := (row8 E5.out.t).1.2.1
    have c2 : v5.cell? ⟨Z, 2, none⟩ = some (.int .i64 (x4 : Int)) := (row8 E5.out.t).1.2.2.1
    have c3 : v5.cell? ⟨Z, 3, none⟩ = some (.int .i64 0) := (row8 E5.out.t).1.2.2.2.1
    have c4 : v5.cell? ⟨Z, 4, none⟩ = some (.int .i64 0) := (row8 E5.out.t).1.2.2.2.2.1
    have c5 : v5.cell? ⟨Z, 5, none⟩ = some (.bool q3) := (row8 E5.out.t).1.2.2.2.2.2.1
    have c6 : v5.cell? ⟨Z, 6, none⟩ = some (.slice none 0 0) := (row8 E5.out.t).1.2.2.2.2.2.2.1
    have c7 : v5.cell? ⟨Z, 7, none⟩ = some (.slice none 0 0) := (row8 E5.out.t).1.2.2.2.2.2.2.2
    have z0 : v5.frozen? ⟨Z, 0, none⟩ = false := (row8 E5.out.t).2.1
    have z1 : v5.frozen? ⟨Z, 1, none⟩ = false := (row8 E5.out.t).2.2.1
    have z2 : v5.frozen? ⟨Z, 2, none⟩ = false := (row8 E5.out.t).2.2.2.1
    have z3 : v5.frozen? ⟨Z, 3, none⟩ = false := (row8 E5.out.t).2.2.2.2.1
    have z4 : v5.frozen? ⟨Z, 4, none⟩ = false := (row8 E5.out.t).2.2.2.2.2.1
    have z5 : v5.frozen? ⟨Z, 5, none⟩ = false := (row8 E5.out.t).2.2.2.2.2.2.1
    have z6 : v5.frozen? ⟨Z, 6, none⟩ = false := (row8 E5.out.t).2.2.2.2.2.2.2.1
    have z7 : v5.frozen? ⟨Z, 7, none⟩ = false := (row8 E5.out.t).2.2.2.2.2.2.2.2
    go_upto_region 14 with fail
    obtain ⟨w5, hw⟩ : ∃ w', w' = v5.setCell ⟨Z, 4, none⟩ (.int .i64 (x5 : Int)) := ⟨_, rfl⟩
    have D5 := Lib.hid (show DSt W Z w w5 r5 none 0 none 0 ⟨4, (x2 : Int), (x4 : Int), 0, (x5 : Int), q3, [], []⟩ by rw [hw]; exact E5.out.set HW.out 4 _ _ _ _ _ rfl ⟨rfl, rfl, rfl⟩ E5.out.b)
    rw [← hw]
    clear hw E5 c0 c1 c2 c3 c4 c5 c6 c7 z0 z1 z2 z3 z4 z5 z6 z7
    have c0 : w5.cell? ⟨Z, 0, none⟩ = some (.int .i64 4) := (row8 D5.out.t).1.1
    have c1 : w5.cell? ⟨Z, 1, none⟩ = some (.int .i64 (x2 : Int)) := (row8 D5.out.t).1.2.1
    have c2 : w5.cell? ⟨Z, 2, none⟩ = some (.int .i64 (x4 : Int)) := (row8 D5.out.t).1.2.2.1
    have c3 : w5.cell? ⟨Z, 3, none⟩ = some (.int .i64 0) := (row8 D5.out.t).1.2.2.2.1
    have c4 : w5.cell? ⟨Z, 4, none⟩ = some (.int .i64 (x5 : Int)) := (row8 D5.out.t).1.2.2.2.2.1
    have c5 : w5.cell? ⟨Z, 5, none⟩ = some (.bool q3) := (row8 D5.out.t).1.2.2.2.2.2.1
    have c6 : w5.cell? ⟨Z, 6, none⟩ = some (.slice none 0 0) := (row8 D5.out.t).1.2.2.2.2.2.2.1
    have c7 : w5.cell? ⟨Z, 7, none⟩ = some (.slice none 0 0) := (row8 D5.out.t).1.2.2.2.2.2.2.2
    have z0 : w5.frozen? ⟨Z, 0, none⟩ = false := (row8 D5.out.t).2.1
    have z1 : w5.frozen? ⟨Z, 1, none⟩ = false := (row8 D5.out.t).2.2.1
    have z2 : w5.frozen? ⟨Z, 2, none⟩ = false := (row8 D5.out.t).2.2.2.1
    have z3 : w5.frozen? ⟨Z, 3, none⟩ = false := (row8 D5.out.t).2.2.2.2.1
    have z4 : w5.frozen? ⟨Z, 4, none⟩ = false := (row8 D5.out.t).2.2.2.2.2.1
    have z5 : w5.frozen? ⟨Z, 5, none⟩ = false := (row8 D5.out.t).2.2.2.2.2.2.1
    have z6 : w5.frozen? ⟨Z, 6, none⟩ = false := (row8 D5.out.t).2.2.2.2.2.2.2.1
    have z7 : w5.frozen? ⟨Z, 7, none⟩ = false := (row8 D5.out.t).2.2.2.2.2.2.2.2
    have FIN := Lib.hid (rd_fin (b := b) (s := r5) (lt := ⟨4, (x2 : Int), (x4 : Int), 0, (x5 : Int), q3, [], []⟩) (by rw [← HRA.out]; exact hA0) (by rw [← HK.out]; decide) (by show bodS (k1 b) (s2 b) = r5; rw [← HK.out, show s2 b = (s1 b).num MX from rfl, ← HRA.out, ← HS2.out]; simp only [bodS]; simp [HS5.out, HS4.out, HS3.out]) (by rw [← HK.out, show s2 b = (s1 b).num MX from rfl, ← HRA.out, ← HS2.out, ← HX2.out]; simp only [bodV]; simp [HX5.out, HX4.out, HX3.out, HS5.out, HS4.out, HS3.out, HQ3.out]))
    obtain ⟨Ay, cy, ny, ⟨y0, y1⟩, ⟨q0, q1⟩, hny, hyr⟩ := D5.out.ys
    have HYR := Lib.hid hyr
    clear hyr
    by_cases he : r5.e = 0
    · have hny := hny he
      have y1' : w5.cell? ⟨W + 1, 1, none⟩ = some (.int .i64 0) := by rw [y1, he]; rfl
      clear y1
      by_cases hl : r5.l = []
      · obtain ⟨h1, h2⟩ := FIN.out.1 he hl
        have HRE := Lib.hid h1
        have HRV := Lib.hid h2
        have tn : decide (0 < (ny : Int)) = false := by rw [decide_eq_false_iff_not, hny, hl]; simp
        have tn2 : decide (0 < ny) = false := by rw [decide_eq_false_iff_not, hny, hl]; simp
        clear hny he hl h1 h2
        obtain ⟨⟨d0, d1, d2, d3, d4, d5, d6, d7⟩, u0, u1, u2, u3, u4, u5, u6, u7⟩ := row8 D5.out.r
        go_wp2_with fail
        have h5 := set8 D5.out.r (.int .i64 4) (.int .i64 (x2 : Int)) (.int .i64 (x4 : Int)) (.int .i64 0) (.int .i64 (x5 : Int)) (.bool q3) (.slice none 0 0) (.slice none 0 0)
        refine bodyPost_ret (v := .tuple #[.agg #[.int .i64 4, .int .i64 (x2 : Int), .int .i64 (x4 : Int), .int .i64 0, .int .i64 (x5 : Int), .bool q3, .slice none 0 0, .slice none 0 0], .int .i64 0]) ?_ rfl ⟨none, 0, none, 0, by rw [HRV.out, HRE.out]; rfl, by rw [HRV.out]; exact D5.out.ltN (by refine ⟨?_, ?_, ?_, ?_, ?_⟩ <;> (unfold i64R; dsimp only; omega)) (Nat.zero_le _) _ (h5.2.mono (fun _ _ h => .inl h)), D5.out.n.trans h5.2 (fun i hi e => by have e : i = W := e; have := HW.out; omega)⟩
        exact results_lt Try.results16 _ _ W _ _ rfl rfl h5.1 rfl
      · obtain ⟨h1, h2⟩ := FIN.out.2.1 he hl
        have HRE := Lib.hid h1
        have HRV := Lib.hid h2
        have hlp : 0 < r5.l.length := List.length_pos_iff.2 hl
        have tn : decide (0 < (ny : Int)) = true := by rw [decide_eq_true_eq, hny]; omega
        have tn2 : decide (0 < ny) = true := by rw [decide_eq_true_eq, hny]; omega
        clear hny he hl h1 h2 hlp
        go_upto_region 25 with fail
        obtain ⟨we, hwe⟩ : ∃ w', w' = w5.setCell ⟨W + 1, 1, none⟩ (.int .i64 3) := ⟨_, rfl⟩
        have te := set_turn w5 (W + 1) 1 (.int .i64 3)
        rw [← hwe] at te ⊢
        have Re := te.heap D5.out.r (fun e => by have e : W = W + 1 := e; omega)
        have Ye : we.heap[W + 1]? = some (.cells #[.slice Ay ny cy, .int .i64 3] 61 (0, 0)) := by rw [hwe, heap_setCell_same w5 (W + 1) 1 _ _ _ HYR.out]; rfl
        have HTe := Lib.hid (D5.out.n.trans te (fun i hi e => by have e : i = W + 1 := e; have := HW.out; omega))
        obtain ⟨⟨-, y1⟩, -, q1⟩ := ys_row Ye
        have HRe := Lib.hid Re
        clear hwe te Ye Re c0 c1 c2 c3 c4 c5 c6 c7 z0 z1 z2 z3 z4 z5 z6 z7 y0 y1' q0
        go_upto_region 26 with fail
        refine wp_region_rel 130 Stp ((.one ?_) :: (.one ?_) :: (.one ?_) :: (.one ?_) :: (.one ?_) :: (.rel (fun _ _ => True)) :: (.one ?_) :: []) (by kernel_rfl) (by kernel_rfl) rfl (by kernel_rfl) Stp.refl Stp.trans ⟨fun _ _ _ _ _ => trivial, trivial⟩ ?main
        case main =>
          iterate 4
            refine wpR_one (A' := ?_) Stp.refl (by rfl) _ rfl 130 (by rfl) (by rfl) ?_ ?_ ?_
            rotate_left 1
            · simp only [Act.put, List.setIfInBounds_toArray, List.set_cons_zero, List.set_cons_succ]; rfl
            · intro w1 hs hf K hK
              go_big_quiet_op
              first
                | go_big_quiet_on
                | (refine ⟨_, fun _ _ => rfl, ?_⟩; go_big_quiet_on)
              rfl
          refine wpR_one (A' := ?_) Stp.refl (by rfl) _ rfl 130 (by rfl) (by rfl) ?_ ?_ ?_
          rotate_left 1
          · simp only [Act.put, List.setIfInBounds_toArray, List.set_cons_zero, List.set_cons_succ]; rfl
          · intro w1 hs hf K hK
            refine cls_load_cell 3 (.tmp 127) rfl ⟨W + 1, 1, none⟩ rfl (.int .i64 3) (fun w h => by simp [go_sem, h]) (fun w2 h2 => (Turn.of_below (stp_start (Stp.trans _ _ _ hs h2) (Below.refl _ _))).cell y1 (fun h => h)) ?_
            refine hK _ ?_
            simp only [Act.put, List.setIfInBounds_toArray, List.set_cons_zero, List.set_cons_succ]
            rfl
          refine wpR_rel (A' := ?_) (by rfl) ?_ ?_ ?_
          · intro w1 hs hf
            exact does_store_zl (.tmp 2) (.tmp 124) rfl rfl rfl ((show LBx _ W none 0 none 0 zL from HRe.out).turn (Turn.of_below (stp_start hs (Below.refl _ _))) (fun h => h))
          rotate_left 1
          · intro x
            simp only [Act.put, List.setIfInBounds_toArray, List.set_cons_zero, List.set_cons_succ]; rfl
          intro x26
          iterate 1
            refine wpR_one (A' := ?_) Stp.refl (by rfl) _ rfl 130 (by rfl) (by rfl) ?_ ?_ ?_
            rotate_left 1
            · simp only [Act.put, List.setIfInBounds_toArray, List.set_cons_zero, List.set_cons_succ]; rfl
            · intro w1 hs hf K hK
              go_big_quiet_op
              first
                | go_big_quiet_on
                | (refine ⟨_, fun _ _ => rfl, ?_⟩; go_big_quiet_on)
              rfl
          intro w9 hs hf
          have T9 := Lib.hid (Turn.of_below (stp_start hs (Below.refl _ _)))
          clear hs hf
          go_wp2_with fail
          refine bodyPost_ret (v := .tuple #[.agg ZLt, .int .i64 3]) ?_ rfl ⟨none, 0, none, 0, by (rw [HRV.out, HRE.out] <;> rfl), by rw [HRV.out]; exact zL_at _ _, HTe.out.trans T9.out (fun _ _ h => h)⟩
          exact results_lt Try.results16 _ _ W _ _ rfl rfl (T9.out.heap HRe.out (fun h => h)) rfl
    · obtain ⟨h1, h2⟩ := FIN.out.2.2 he
      have HRE := Lib.hid h1
      have HRV := Lib.hid h2
      have t1 : ((r5.e : Int) == 0) = false := by rw [beq_eq_false_iff_ne]; omega
      have t2 : ((r5.e : Int) != 0) = true := by simp; omega
      have HRe := Lib.hid D5.out.r
      have HTe := Lib.hid D5.out.n
      clear hny he h1 h2
      go_upto_region 26 with fail
      refine wp_region_rel 130 Stp ((.one ?_) :: (.one ?_) :: (.one ?_) :: (.one ?_) :: (.one ?_) :: (.rel (fun _ _ => True)) :: (.one ?_) :: []) (by kernel_rfl) (by kernel_rfl) rfl (by kernel_rfl) Stp.refl Stp.trans ⟨fun _ _ _ _ _ => trivial, trivial⟩ ?main
      case main =>
        iterate 4
          refine wpR_one (A' := ?_) Stp.refl (by rfl) _ rfl 130 (by rfl) (by rfl) ?_ ?_ ?_
          rotate_left 1
          · simp only [Act.put, List.setIfInBounds_toArray, List.set_cons_zero, List.set_cons_succ]; rfl
          · intro w1 hs hf K hK
            go_big_quiet_op
            first
              | go_big_quiet_on
              | (refine ⟨_, fun _ _ => rfl, ?_⟩; go_big_quiet_on)
            rfl
        refine wpR_one (A' := ?_) Stp.refl (by rfl) _ rfl 130 (by rfl) (by rfl) ?_ ?_ ?_
        rotate_left 1
        · simp only [Act.put, List.setIfInBounds_toArray, List.set_cons_zero, List.set_cons_succ]; rfl
        · intro w1 hs hf K hK
          refine cls_load_cell 3 (.tmp 127) rfl ⟨W + 1, 1, none⟩ rfl (.int .i64 (r5.e : Int)) (fun w h => by simp [go_sem, h]) (fun w2 h2 => (Turn.of_below (stp_start (Stp.trans _ _ _ hs h2) (Below.refl _ _))).cell y1 (fun h => h)) ?_
          refine hK _ ?_
          simp only [Act.put, List.setIfInBounds_toArray, List.set_cons_zero, List.set_cons_succ]
          rfl
        refine wpR_rel (A' := ?_) (by rfl) ?_ ?_ ?_
        · intro w1 hs hf
          exact does_store_zl (.tmp 2) (.tmp 124) rfl rfl rfl ((show LBx _ W none 0 none 0 zL from HRe.out).turn (Turn.of_below (stp_start hs (Below.refl _ _))) (fun h => h))
        rotate_left 1
        · intro x
          simp only [Act.put, List.setIfInBounds_toArray, List.set_cons_zero, List.set_cons_succ]; rfl
        intro x26
        iterate 1
          refine wpR_one (A' := ?_) Stp.refl (by rfl) _ rfl 130 (by rfl) (by rfl) ?_ ?_ ?_
          rotate_left 1
          · simp only [Act.put, List.setIfInBounds_toArray, List.set_cons_zero, List.set_cons_succ]; rfl
          · intro w1 hs hf K hK
            go_big_quiet_op
            first
              | go_big_quiet_on
              | (refine ⟨_, fun _ _ => rfl, ?_⟩; go_big_quiet_on)
            rfl
        intro w9 hs hf
        have T9 := Lib.hid (Turn.of_below (stp_start hs (Below.refl _ _)))
        clear hs hf
        go_wp2_with fail
        refine bodyPost_ret (v := .tuple #[.agg ZLt, .int .i64 (r5.e : Int)]) ?_ rfl ⟨none, 0, none, 0, by (rw [HRV.out, HRE.out] <;> rfl), by rw [HRV.out]; exact zL_at _ _, HTe.out.trans T9.out (fun _ _ h => h)⟩
        exact results_lt Try.results16 _ _ W _ _ rfl rfl (T9.out.heap HRe.out (fun h => h)) rfl
  · have D1 := Lib.hid (show DSt W Z w w1 rA none 0 none 0 ⟨5, 0, 0, 0, 0, false, [], []⟩ from D1.out)
    have c0 : w1.cell? ⟨Z, 0, none⟩ = some (.int .i64 5) := (row8 D1.out.t).1.1
    have c1 : w1.cell? ⟨Z, 1, none⟩ = some (.int .i64 0) := (row8 D1.out.t).1.2.1
    have c2 : w1.cell? ⟨Z, 2, none⟩ = some (.int .i64 0) := (row8 D1.out.t).1.2.2.1
    have c3 : w1.cell? ⟨Z, 3, none⟩ = some (.int .i64 0) := (row8 D1.out.t).1.2.2.2.1
    have c4 : w1.cell? ⟨Z, 4, none⟩ = some (.int .i64 0) := (row8 D1.out.t).1.2.2.2.2.1
    have c5 : w1.cell? ⟨Z, 5, none⟩ = some (.bool false) := (row8 D1.out.t).1.2.2.2.2.2.1
    have c6 : w1.cell? ⟨Z, 6, none⟩ = some (.slice none 0 0) := (row8 D1.out.t).1.2.2.2.2.2.2.1
    have c7 : w1.cell? ⟨Z, 7, none⟩ = some (.slice none 0 0) := (row8 D1.out.t).1.2.2.2.2.2.2.2
    have z0 : w1.frozen? ⟨Z, 0, none⟩ = false := (row8 D1.out.t).2.1
    have z1 : w1.frozen? ⟨Z, 1, none⟩ = false := (row8 D1.out.t).2.2.1
    have z2 : w1.frozen? ⟨Z, 2, none⟩ = false := (row8 D1.out.t).2.2.2.1
    have z3 : w1.frozen? ⟨Z, 3, none⟩ = false := (row8 D1.out.t).2.2.2.2.1
    have z4 : w1.frozen? ⟨Z, 4, none⟩ = false := (row8 D1.out.t).2.2.2.2.2.1
    have z5 : w1.frozen? ⟨Z, 5, none⟩ = false := (row8 D1.out.t).2.2.2.2.2.2.1
    have z6 : w1.frozen? ⟨Z, 6, none⟩ = false := (row8 D1.out.t).2.2.2.2.2.2.2.1
    have z7 : w1.frozen? ⟨Z, 7, none⟩ = false := (row8 D1.out.t).2.2.2.2.2.2.2.2
    have T := enum_any (fun i => W ≤ i) (W + 1) rA.e 1099511627776 rA.l w1 D1.out.y hWy (HN.out w1 (by have := D1.out.z; have := D1.out.q; omega)) (by decide)
    change Calls _ _ _ _ (fun r w' => r = .returned (.int .i64 ((rA.nv MX : Nat) : Int)) ∧ YS w' _ _ (rA.num MX).e (rA.num MX).l ∧ _) at T
    obtain ⟨x2, hx⟩ : ∃ x, x = rA.nv MX := ⟨_, rfl⟩
    obtain ⟨r2, hs⟩ : ∃ s, s = rA.num MX := ⟨_, rfl⟩
    rw [← hx, ← hs] at T
    have bx2 : x2 ≤ 1099511627776 := by rw [hx]; exact Nat.le_trans (nv_le _ _) (by decide)
    have HX2 := Lib.hid hx
    have HS2 := Lib.hid hs
    have T := Lib.hid T
    clear hx hs
    go_wp2_with fail
    refine T.out.mono ?_
    rintro r v2 ⟨rfl, hy, t⟩
    have E2 := Lib.hid (D1.out.num HW.out hy t)
    clear hy t T c0 c1 c2 c3 c4 c5 c6 c7 z0 z1 z2 z3 z4 z5 z6 z7
    have c0 : v2.cell? ⟨Z, 0, none⟩ = some (.int .i64 5) := (row8 E2.out.t).1.1
    have c1 : v2.cell? ⟨Z, 1, none⟩ = some (.int .i64 0) := (row8 E2.out.t).1.2.1
    have c2 : v2.cell? ⟨Z, 2, none⟩ = some (.int .i64 0) := (row8 E2.out.t).1.2.2.1
    have c3 : v2.cell? ⟨Z, 3, none⟩ = some (.int .i64 0) := (row8 E2.out.t).1.2.2.2.1
    have c4 : v2.cell? ⟨Z, 4, none⟩ = some (.int .i64 0) := (row8 E2.out.t).1.2.2.2.2.1
    have c5 : v2.cell? ⟨Z, 5, none⟩ = some (.bool false) := (row8 E2.out.t).1.2.2.2.2.2.1
    have c6 : v2.cell? ⟨Z, 6, none⟩ = some (.slice none 0 0) := (row8 E2.out.t).1.2.2.2.2.2.2.1
    have c7 : v2.cell? ⟨Z, 7, none⟩ = some (.slice none 0 0) := (row8 E2.out.t).1.2.2.2.2.2.2.2
    have z0 : v2.frozen? ⟨Z, 0, none⟩ = false := (row8 E2.out.t).2.1
    have z1 : v2.frozen? ⟨Z, 1, none⟩ = false := (row8 E2.out.t).2.2.1
    have z2 : v2.frozen? ⟨Z, 2, none⟩ = false := (row8 E2.out.t).2.2.2.1
    have z3 : v2.frozen? ⟨Z, 3, none⟩ = false := (row8 E2.out.t).2.2.2.2.1
    have z4 : v2.frozen? ⟨Z, 4, none⟩ = false := (row8 E2.out.t).2.2.2.2.2.1
    have z5 : v2.frozen? ⟨Z, 5, none⟩ = false := (row8 E2.out.t).2.2.2.2.2.2.1
    have z6 : v2.frozen? ⟨Z, 6, none⟩ = false := (row8 E2.out.t).2.2.2.2.2.2.2.1
    have z7 : v2.frozen? ⟨Z, 7, none⟩ = false := (row8 E2.out.t).2.2.2.2.2.2.2.2
    go_upto_region 6 with fail
    obtain ⟨w2, hw⟩ : ∃ w', w' = v2.setCell ⟨Z, 1, none⟩ (.int .i64 (x2 : Int)) := ⟨_, rfl⟩
    have D2 := Lib.hid (show DSt W Z w w2 r2 none 0 none 0 ⟨5, (x2 : Int), 0, 0, 0, false, [], []⟩ by rw [hw]; exact E2.out.set HW.out 1 _ _ _ _ _ rfl ⟨rfl, rfl, rfl⟩ E2.out.b)
    rw [← hw]
    clear hw E2 c0 c1 c2 c3 c4 c5 c6 c7 z0 z1 z2 z3 z4 z5 z6 z7
    have c0 : w2.cell? ⟨Z, 0, none⟩ = some (.int .i64 5) := (row8 D2.out.t).1.1
    have c1 : w2.cell? ⟨Z, 1, none⟩ = some (.int .i64 (x2 : Int)) := (row8 D2.out.t).1.2.1
    have c2 : w2.cell? ⟨Z, 2, none⟩ = some (.int .i64 0) := (row8 D2.out.t).1.2.2.1
    have c3 : w2.cell? ⟨Z, 3, none⟩ = some (.int .i64 0) := (row8 D2.out.t).1.2.2.2.1
    have c4 : w2.cell? ⟨Z, 4, none⟩ = some (.int .i64 0) := (row8 D2.out.t).1.2.2.2.2.1
    have c5 : w2.cell? ⟨Z, 5, none⟩ = some (.bool false) := (row8 D2.out.t).1.2.2.2.2.2.1
    have c6 : w2.cell? ⟨Z, 6, none⟩ = some (.slice none 0 0) := (row8 D2.out.t).1.2.2.2.2.2.2.1
    have c7 : w2.cell? ⟨Z, 7, none⟩ = some (.slice none 0 0) := (row8 D2.out.t).1.2.2.2.2.2.2.2
    have z0 : w2.frozen? ⟨Z, 0, none⟩ = false := (row8 D2.out.t).2.1
    have z1 : w2.frozen? ⟨Z, 1, none⟩ = false := (row8 D2.out.t).2.2.1
    have z2 : w2.frozen? ⟨Z, 2, none⟩ = false := (row8 D2.out.t).2.2.2.1
    have z3 : w2.frozen? ⟨Z, 3, none⟩ = false := (row8 D2.out.t).2.2.2.2.1
    have z4 : w2.frozen? ⟨Z, 4, none⟩ = false := (row8 D2.out.t).2.2.2.2.2.1
    have z5 : w2.frozen? ⟨Z, 5, none⟩ = false := (row8 D2.out.t).2.2.2.2.2.2.1
    have z6 : w2.frozen? ⟨Z, 6, none⟩ = false := (row8 D2.out.t).2.2.2.2.2.2.2.1
    have z7 : w2.frozen? ⟨Z, 7, none⟩ = false := (row8 D2.out.t).2.2.2.2.2.2.2.2
    have T := enum_any (fun i => W ≤ i) (W + 1) r2.e 1099511627776 r2.l w2 D2.out.y hWy (HN.out w2 (by have := D2.out.z; have := D2.out.q; omega)) (by decide)
    change Calls _ _ _ _ (fun r w' => r = .returned (.int .i64 ((r2.nv MX : Nat) : Int)) ∧ YS w' _ _ (r2.num MX).e (r2.num MX).l ∧ _) at T
    obtain ⟨x3, hx⟩ : ∃ x, x = r2.nv MX := ⟨_, rfl⟩
    obtain ⟨r3, hs⟩ : ∃ s, s = r2.num MX := ⟨_, rfl⟩
    rw [← hx, ← hs] at T
    have bx3 : x3 ≤ 1099511627776 := by rw [hx]; exact Nat.le_trans (nv_le _ _) (by decide)
    have HX3 := Lib.hid hx
    have HS3 := Lib.hid hs
    have T := Lib.hid T
    clear hx hs
    go_wp2_with fail
    refine T.out.mono ?_
    rintro r v3 ⟨rfl, hy, t⟩
    have E3 := Lib.hid (D2.out.num HW.out hy t)
    clear hy t T c0 c1 c2 c3 c4 c5 c6 c7 z0 z1 z2 z3 z4 z5 z6 z7
    have c0 : v3.cell? ⟨Z, 0, none⟩ = some (.int .i64 5) := (row8 E3.out.t).1.1
    have c1 : v3.cell? ⟨Z, 1, none⟩ = some (.int .i64 (x2 : Int)) := (row8 E3.out.t).1.2.1
    have c2 : v3.cell? ⟨Z, 2, none⟩ = some (.int .i64 0) := (row8 E3.out.t).1.2.2.1
    have c3 : v3.cell? ⟨Z, 3, none⟩ = some (.int .i64 0) := (row8 E3.out.t).1.2.2.2.1
    have c4 : v3.cell? ⟨Z, 4, none⟩ = some (.int .i64 0) := (row8 E3.out.t).1.2.2.2.2.1
    have c5 : v3.cell? ⟨Z, 5, none⟩ = some (.bool false) := (row8 E3.out.t).1.2.2.2.2.2.1
    have c6 : v3.cell? ⟨Z, 6, none⟩ = some (.slice none 0 0) := (row8 E3.out.t).1.2.2.2.2.2.2.1
    have c7 : v3.cell? ⟨Z, 7, none⟩ = some (.slice none 0 0) := (row8 E3.out.t).1.2.2.2.2.2.2.2
    have z0 : v3.frozen? ⟨Z, 0, none⟩ = false := (row8 E3.out.t).2.1
    have z1 : v3.frozen? ⟨Z, 1, none⟩ = false := (row8 E3.out.t).2.2.1
    have z2 : v3.frozen? ⟨Z, 2, none⟩ = false := (row8 E3.out.t).2.2.2.1
    have z3 : v3.frozen? ⟨Z, 3, none⟩ = false := (row8 E3.out.t).2.2.2.2.1
    have z4 : v3.frozen? ⟨Z, 4, none⟩ = false := (row8 E3.out.t).2.2.2.2.2.1
    have z5 : v3.frozen? ⟨Z, 5, none⟩ = false := (row8 E3.out.t).2.2.2.2.2.2.1
    have z6 : v3.frozen? ⟨Z, 6, none⟩ = false := (row8 E3.out.t).2.2.2.2.2.2.2.1
    have z7 : v3.frozen? ⟨Z, 7, none⟩ = false := (row8 E3.out.t).2.2.2.2.2.2.2.2
    go_upto_region 10 with fail
    obtain ⟨w3, hw⟩ : ∃ w', w' = v3.setCell ⟨Z, 2, none⟩ (.int .i64 (x3 : Int)) := ⟨_, rfl⟩
    have D3 := Lib.hid (show DSt W Z w w3 r3 none 0 none 0 ⟨5, (x2 : Int), (x3 : Int), 0, 0, false, [], []⟩ by rw [hw]; exact E3.out.set HW.out 2 _ _ _ _ _ rfl ⟨rfl, rfl, rfl⟩ E3.out.b)
    rw [← hw]
    clear hw E3 c0 c1 c2 c3 c4 c5 c6 c7 z0 z1 z2 z3 z4 z5 z6 z7
    have c0 : w3.cell? ⟨Z, 0, none⟩ = some (.int .i64 5) := (row8 D3.out.t).1.1
    have c1 : w3.cell? ⟨Z, 1, none⟩ = some (.int .i64 (x2 : Int)) := (row8 D3.out.t).1.2.1
    have c2 : w3.cell? ⟨Z, 2, none⟩ = some (.int .i64 (x3 : Int)) := (row8 D3.out.t).1.2.2.1
    have c3 : w3.cell? ⟨Z, 3, none⟩ = some (.int .i64 0) := (row8 D3.out.t).1.2.2.2.1
    have c4 : w3.cell? ⟨Z, 4, none⟩ = some (.int .i64 0) := (row8 D3.out.t).1.2.2.2.2.1
    have c5 : w3.cell? ⟨Z, 5, none⟩ = some (.bool false) := (row8 D3.out.t).1.2.2.2.2.2.1
    have c6 : w3.cell? ⟨Z, 6, none⟩ = some (.slice none 0 0) := (row8 D3.out.t).1.2.2.2.2.2.2.1
    have c7 : w3.cell? ⟨Z, 7, none⟩ = some (.slice none 0 0) := (row8 D3.out.t).1.2.2.2.2.2.2.2
    have z0 : w3.frozen? ⟨Z, 0, none⟩ = false := (row8 D3.out.t).2.1
    have z1 : w3.frozen? ⟨Z, 1, none⟩ = false := (row8 D3.out.t).2.2.1
    have z2 : w3.frozen? ⟨Z, 2, none⟩ = false := (row8 D3.out.t).2.2.2.1
    have z3 : w3.frozen? ⟨Z, 3, none⟩ = false := (row8 D3.out.t).2.2.2.2.1
    have z4 : w3.frozen? ⟨Z, 4, none⟩ = false := (row8 D3.out.t).2.2.2.2.2.1
    have z5 : w3.frozen? ⟨Z, 5, none⟩ = false := (row8 D3.out.t).2.2.2.2.2.2.1
    have z6 : w3.frozen? ⟨Z, 6, none⟩ = false := (row8 D3.out.t).2.2.2.2.2.2.2.1
    have z7 : w3.frozen? ⟨Z, 7, none⟩ = false := (row8 D3.out.t).2.2.2.2.2.2.2.2
    have T := enum_any (fun i => W ≤ i) (W + 1) r3.e 1099511627776 r3.l w3 D3.out.y hWy (HN.out w3 (by have := D3.out.z; have := D3.out.q; omega)) (by decide)
    change Calls _ _ _ _ (fun r w' => r = .returned (.int .i64 ((r3.nv MX : Nat) : Int)) ∧ YS w' _ _ (r3.num MX).e (r3.num MX).l ∧ _) at T
    obtain ⟨x4, hx⟩ : ∃ x, x = r3.nv MX := ⟨_, rfl⟩
    obtain ⟨r4, hs⟩ : ∃ s, s = r3.num MX := ⟨_, rfl⟩
    rw [← hx, ← hs] at T
    have bx4 : x4 ≤ 1099511627776 := by rw [hx]; exact Nat.le_trans (nv_le _ _) (by decide)
    have HX4 := Lib.hid hx
    have HS4 := Lib.hid hs
    have T := Lib.hid T
    clear hx hs
    go_wp2_with fail
    refine T.out.mono ?_
    rintro r v4 ⟨rfl, hy, t⟩
    have E4 := Lib.hid (D3.out.num HW.out hy t)
    clear hy t T c0 c1 c2 c3 c4 c5 c6 c7 z0 z1 z2 z3 z4 z5 z6 z7
    have c0 : v4.cell? ⟨Z, 0, none⟩ = some (.int .i64 5) := (row8 E4.out.t).1.1
    have c1 : v4.cell? ⟨Z, 1, none⟩ = some (.int .i64 (x2 : Int)) := (row8 E4.out.t).1.2.1
    have c2 : v4.cell? ⟨Z, 2, none⟩ = some (.int .i64 (x3 : Int)) := (row8 E4.out.t).1.2.2.1
    have c3 : v4.cell? ⟨Z, 3, none⟩ = some (.int .i64 0) := (row8 E4.out.t).1.2.2.2.1
    have c4 : v4.cell? ⟨Z, 4, none⟩ = some (.int .i64 0) := (row8 E4.out.t).1.2.2.2.2.1
    have c5 : v4.cell? ⟨Z, 5, none⟩ = some (.bool false) := (row8 E4.out.t).1.2.2.2.2.2.1
    have c6 : v4.cell? ⟨Z, 6, none⟩ = some (.slice none 0 0) := (row8 E4.out.t).1.2.2.2.2.2.2.1
    have c7 : v4.cell? ⟨Z, 7, none⟩ = some (.slice none 0 0) := (row8 E4.out.t).1.2.2.2.2.2.2.2
    have z0 : v4.frozen? ⟨Z, 0, none⟩ = false := (row8 E4.out.t).2.1
    have z1 : v4.frozen? ⟨Z, 1, none⟩ = false := (row8 E4.out.t).2.2.1
    have z2 : v4.frozen? ⟨Z, 2, none⟩ = false := (row8 E4.out.t).2.2.2.1
    have z3 : v4.frozen? ⟨Z, 3, none⟩ = false := (row8 E4.out.t).2.2.2.2.1
    have z4 : v4.frozen? ⟨Z, 4, none⟩ = false := (row8 E4.out.t).2.2.2.2.2.1
    have z5 : v4.frozen? ⟨Z, 5, none⟩ = false := (row8 E4.out.t).2.2.2.2.2.2.1
    have z6 : v4.frozen? ⟨Z, 6, none⟩ = false := (row8 E4.out.t).2.2.2.2.2.2.2.1
    have z7 : v4.frozen? ⟨Z, 7, none⟩ = false := (row8 E4.out.t).2.2.2.2.2.2.2.2
    go_upto_region 12 with fail
    obtain ⟨w4, hw⟩ : ∃ w', w' = v4.setCell ⟨Z, 3, none⟩ (.int .i64 (x4 : Int)) := ⟨_, rfl⟩
    have D4 := Lib.hid (show DSt W Z w w4 r4 none 0 none 0 ⟨5, (x2 : Int), (x3 : Int), (x4 : Int), 0, false, [], []⟩ by rw [hw]; exact E4.out.set HW.out 3 _ _ _ _ _ rfl ⟨rfl, rfl, rfl⟩ E4.out.b)
    rw [← hw]
    clear hw E4 c0 c1 c2 c3 c4 c5 c6 c7 z0 z1 z2 z3 z4 z5 z6 z7
    have c0 : w4.cell? ⟨Z, 0, none⟩ = some (.int .i64 5) := (row8 D4.out.t).1.1
    have c1 : w4.cell? ⟨Z, 1, none⟩ = some (.int .i64 (x2 : Int)) := (row8 D4.out.t).1.2.1
    have c2 : w4.cell? ⟨Z, 2, none⟩ = some (.int .i64 (x3 : Int)) := (row8 D4.out.t).1.2.2.1
    have c3 : w4.cell? ⟨Z, 3, none⟩ = some (.int .i64 (x4 : Int)) := (row8 D4.out.t).1.2.2.2.1
    have c4 : w4.cell? ⟨Z, 4, none⟩ = some (.int .i64 0) := (row8 D4.out.t).1.2.2.2.2.1
    have c5 : w4.cell? ⟨Z, 5, none⟩ = some (.bool false) := (row8 D4.out.t).1.2.2.2.2.2.1
    have c6 : w4.cell? ⟨Z, 6, none⟩ = some (.slice none 0 0) := (row8 D4.out.t).1.2.2.2.2.2.2.1
    have c7 : w4.cell? ⟨Z, 7, none⟩ = some (.slice none 0 0) := (row8 D4.out.t).1.2.2.2.2.2.2.2
    have z0 : w4.frozen? ⟨Z, 0, none⟩ = false := (row8 D4.out.t).2.1
    have z1 : w4.frozen? ⟨Z, 1, none⟩ = false := (row8 D4.out.t).2.2.1
    have z2 : w4.frozen? ⟨Z, 2, none⟩ = false := (row8 D4.out.t).2.2.2.1
    have z3 : w4.frozen? ⟨Z, 3, none⟩ = false := (row8 D4.out.t).2.2.2.2.1
    have z4 : w4.frozen? ⟨Z, 4, none⟩ = false := (row8 D4.out.t).2.2.2.2.2.1
    have z5 : w4.frozen? ⟨Z, 5, none⟩ = false := (row8 D4.out.t).2.2.2.2.2.2.1
    have z6 : w4.frozen? ⟨Z, 6, none⟩ = false := (row8 D4.out.t).2.2.2.2.2.2.2.1
    have z7 : w4.frozen? ⟨Z, 7, none⟩ = false := (row8 D4.out.t).2.2.2.2.2.2.2.2
    have T := etext_any (fun i => W ≤ i) (W + 1) r4.e 65536 r4.l w4 D4.out.y hWy (HN.out w4 (by have := D4.out.z; have := D4.out.q; omega)) (by decide)
    change Calls _ _ _ _ (fun r w' => ∃ S cS, r = .returned (.slice S (r4.tv 65536).length cS) ∧ BtN w' _ S cS (r4.tv 65536) ∧ YS w' _ _ (r4.text 65536).e (r4.text 65536).l ∧ _) at T
    obtain ⟨tx, htx⟩ : ∃ x, x = r4.tv 65536 := ⟨_, rfl⟩
    obtain ⟨r5, hs⟩ : ∃ s, s = r4.text 65536 := ⟨_, rfl⟩
    rw [← htx, ← hs] at T
    obtain ⟨tl, htl⟩ : ∃ n, n = tx.length := ⟨_, rfl⟩
    rw [← htl] at T
    have HTL := Lib.hid htl
    have HX5 := Lib.hid htx
    have HS5 := Lib.hid hs
    have T := Lib.hid T
    have HBL := Lib.hid (show tx.length ≤ maxLen by rw [htx]; exact lt_maxM (Nat.le_trans (tvm_le _ _) (by decide)))
    clear htx hs htl
    go_wp2_with fail
    refine T.out.mono ?_
    rintro r v5 ⟨S9, c9, rfl, hb, hy, t⟩
    have E5 := Lib.hid (D4.out.num HW.out hy t)
    have HB5 := Lib.hid hb
    clear hy t T hb c0 c1 c2 c3 c4 c5 c6 c7 z0 z1 z2 z3 z4 z5 z6 z7
    have c0 : v5.cell? ⟨Z, 0, none⟩ = some (.int .i64 5) := (row8 E5.out.t).1.1
    have c1 : v5.cell? ⟨Z, 1, none⟩ = some (.int .i64 (x2 : Int)) := (row8 E5.out.t).1.2.1
    have c2 : v5.cell? ⟨Z, 2, none⟩ = some (.int .i64 (x3 : Int)) := (row8 E5.out.t).1.2.2.1
    have c3 : v5.cell? ⟨Z, 3, none⟩ = some (.int .i64 (x4 : Int)) := (row8 E5.out.t).1.2.2.2.1
    have c4 : v5.cell? ⟨Z, 4, none⟩ = some (.int .i64 0) := (row8 E5.out.t).1.2.2.2.2.1
    have c5 : v5.cell? ⟨Z, 5, none⟩ = some (.bool false) := (row8 E5.out.t).1.2.2.2.2.2.1
    have c6 : v5.cell? ⟨Z, 6, none⟩ = some (.slice none 0 0) := (row8 E5.out.t).1.2.2.2.2.2.2.1
    have c7 : v5.cell? ⟨Z, 7, none⟩ = some (.slice none 0 0) := (row8 E5.out.t).1.2.2.2.2.2.2.2
    have z0 : v5.frozen? ⟨Z, 0, none⟩ = false := (row8 E5.out.t).2.1
    have z1 : v5.frozen? ⟨Z, 1, none⟩ = false := (row8 E5.out.t).2.2.1
    have z2 : v5.frozen? ⟨Z, 2, none⟩ = false := (row8 E5.out.t).2.2.2.1
    have z3 : v5.frozen? ⟨Z, 3, none⟩ = false := (row8 E5.out.t).2.2.2.2.1
    have z4 : v5.frozen? ⟨Z, 4, none⟩ = false := (row8 E5.out.t).2.2.2.2.2.1
    have z5 : v5.frozen? ⟨Z, 5, none⟩ = false := (row8 E5.out.t).2.2.2.2.2.2.1
    have z6 : v5.frozen? ⟨Z, 6, none⟩ = false := (row8 E5.out.t).2.2.2.2.2.2.2.1
    have z7 : v5.frozen? ⟨Z, 7, none⟩ = false := (row8 E5.out.t).2.2.2.2.2.2.2.2
    go_upto_region 23 with fail
    obtain ⟨w5, hw⟩ : ∃ w', w' = v5.setCell ⟨Z, 7, none⟩ (.slice S9 tl c9) := ⟨_, rfl⟩
    have D5 := Lib.hid (show DSt W Z w w5 r5 none 0 S9 c9 ⟨5, (x2 : Int), (x3 : Int), (x4 : Int), 0, false, [], tx⟩ by rw [hw, HTL.out]; exact E5.out.set HW.out 7 _ _ _ _ _ rfl ⟨rfl, rfl, rfl⟩ HB5.out)
    rw [← hw]
    clear hw E5 c0 c1 c2 c3 c4 c5 c6 c7 z0 z1 z2 z3 z4 z5 z6 z7
    have c0 : w5.cell? ⟨Z, 0, none⟩ = some (.int .i64 5) := (row8 D5.out.t).1.1
    have c1 : w5.cell? ⟨Z, 1, none⟩ = some (.int .i64 (x2 : Int)) := (row8 D5.out.t).1.2.1
    have c2 : w5.cell? ⟨Z, 2, none⟩ = some (.int .i64 (x3 : Int)) := (row8 D5.out.t).1.2.2.1
    have c3 : w5.cell? ⟨Z, 3, none⟩ = some (.int .i64 (x4 : Int)) := (row8 D5.out.t).1.2.2.2.1
    have c4 : w5.cell? ⟨Z, 4, none⟩ = some (.int .i64 0) := (row8 D5.out.t).1.2.2.2.2.1
    have c5 : w5.cell? ⟨Z, 5, none⟩ = some (.bool false) := (row8 D5.out.t).1.2.2.2.2.2.1
    have c6 : w5.cell? ⟨Z, 6, none⟩ = some (.slice none 0 0) := (row8 D5.out.t).1.2.2.2.2.2.2.1
    have c7 : w5.cell? ⟨Z, 7, none⟩ = some (.slice S9 tl c9) := by rw [HTL.out]; exact (row8 D5.out.t).1.2.2.2.2.2.2.2
    have z0 : w5.frozen? ⟨Z, 0, none⟩ = false := (row8 D5.out.t).2.1
    have z1 : w5.frozen? ⟨Z, 1, none⟩ = false := (row8 D5.out.t).2.2.1
    have z2 : w5.frozen? ⟨Z, 2, none⟩ = false := (row8 D5.out.t).2.2.2.1
    have z3 : w5.frozen? ⟨Z, 3, none⟩ = false := (row8 D5.out.t).2.2.2.2.1
    have z4 : w5.frozen? ⟨Z, 4, none⟩ = false := (row8 D5.out.t).2.2.2.2.2.1
    have z5 : w5.frozen? ⟨Z, 5, none⟩ = false := (row8 D5.out.t).2.2.2.2.2.2.1
    have z6 : w5.frozen? ⟨Z, 6, none⟩ = false := (row8 D5.out.t).2.2.2.2.2.2.2.1
    have z7 : w5.frozen? ⟨Z, 7, none⟩ = false := (row8 D5.out.t).2.2.2.2.2.2.2.2
    have FIN := Lib.hid (rd_fin (b := b) (s := r5) (lt := ⟨5, (x2 : Int), (x3 : Int), (x4 : Int), 0, false, [], tx⟩) (by rw [← HRA.out]; exact hA0) (by rw [← HK.out]; decide) (by show bodS (k1 b) (s2 b) = r5; rw [← HK.out, show s2 b = (s1 b).num MX from rfl, ← HRA.out, ← HS2.out]; simp only [bodS]; simp [HS5.out, HS4.out, HS3.out]) (by rw [← HK.out, show s2 b = (s1 b).num MX from rfl, ← HRA.out, ← HS2.out, ← HX2.out]; simp only [bodV]; simp [HX5.out, HX4.out, HX3.out, HS5.out, HS4.out, HS3.out]))
    obtain ⟨Ay, cy, ny, ⟨y0, y1⟩, ⟨q0, q1⟩, hny, hyr⟩ := D5.out.ys
    have HYR := Lib.hid hyr
    clear hyr
    by_cases he : r5.e = 0
    · have hny := hny he
      have y1' : w5.cell? ⟨W + 1, 1, none⟩ = some (.int .i64 0) := by rw [y1, he]; rfl
      clear y1
      by_cases hl : r5.l = []
      · obtain ⟨h1, h2⟩ := FIN.out.1 he hl
        have HRE := Lib.hid h1
        have HRV := Lib.hid h2
        have tn : decide (0 < (ny : Int)) = false := by rw [decide_eq_false_iff_not, hny, hl]; simp
        have tn2 : decide (0 < ny) = false := by rw [decide_eq_false_iff_not, hny, hl]; simp
        clear hny he hl h1 h2
        obtain ⟨⟨d0, d1, d2, d3, d4, d5, d6, d7⟩, u0, u1, u2, u3, u4, u5, u6, u7⟩ := row8 D5.out.r
        go_wp2_with fail
        have h5 := set8 D5.out.r (.int .i64 5) (.int .i64 (x2 : Int)) (.int .i64 (x3 : Int)) (.int .i64 (x4 : Int)) (.int .i64 0) (.bool false) (.slice none 0 0) (.slice S9 tl c9)
        refine bodyPost_ret (v := .tuple #[.agg #[.int .i64 5, .int .i64 (x2 : Int), .int .i64 (x3 : Int), .int .i64 (x4 : Int), .int .i64 0, .bool false, .slice none 0 0, .slice S9 tl c9], .int .i64 0]) ?_ rfl ⟨none, 0, S9, c9, by rw [HRV.out, HRE.out, HTL.out]; rfl, by rw [HRV.out]; exact D5.out.ltN (by refine ⟨?_, ?_, ?_, ?_, ?_⟩ <;> (unfold i64R; dsimp only; omega)) (HBL.out) _ (h5.2.mono (fun _ _ h => .inl h)), D5.out.n.trans h5.2 (fun i hi e => by have e : i = W := e; have := HW.out; omega)⟩
        exact results_lt Try.results16 _ _ W _ _ rfl rfl h5.1 rfl
      · obtain ⟨h1, h2⟩ := FIN.out.2.1 he hl
        have HRE := Lib.hid h1
        have HRV := Lib.hid h2
        have hlp : 0 < r5.l.length := List.length_pos_iff.2 hl
        have tn : decide (0 < (ny : Int)) = true := by rw [decide_eq_true_eq, hny]; omega
        have tn2 : decide (0 < ny) = true := by rw [decide_eq_true_eq, hny]; omega
        clear hny he hl h1 h2 hlp
        go_upto_region 25 with fail
        obtain ⟨we, hwe⟩ : ∃ w', w' = w5.setCell ⟨W + 1, 1, none⟩ (.int .i64 3) := ⟨_, rfl⟩
        have te := set_turn w5 (W + 1) 1 (.int .i64 3)
        rw [← hwe] at te ⊢
        have Re := te.heap D5.out.r (fun e => by have e : W = W + 1 := e; omega)
        have Ye : we.heap[W + 1]? = some (.cells #[.slice Ay ny cy, .int .i64 3] 61 (0, 0)) := by rw [hwe, heap_setCell_same w5 (W + 1) 1 _ _ _ HYR.out]; rfl
        have HTe := Lib.hid (D5.out.n.trans te (fun i hi e => by have e : i = W + 1 := e; have := HW.out; omega))
        obtain ⟨⟨-, y1⟩, -, q1⟩ := ys_row Ye
        have HRe := Lib.hid Re
        clear hwe te Ye Re c0 c1 c2 c3 c4 c5 c6 c7 z0 z1 z2 z3 z4 z5 z6 z7 y0 y1' q0
        go_upto_region 26 with fail
        refine wp_region_rel 130 Stp ((.one ?_) :: (.one ?_) :: (.one ?_) :: (.one ?_) :: (.one ?_) :: (.rel (fun _ _ => True)) :: (.one ?_) :: []) (by kernel_rfl) (by kernel_rfl) rfl (by kernel_rfl) Stp.refl Stp.trans ⟨fun _ _ _ _ _ => trivial, trivial⟩ ?main
        case main =>
          iterate 4
            refine wpR_one (A' := ?_) Stp.refl (by rfl) _ rfl 130 (by rfl) (by rfl) ?_ ?_ ?_
            rotate_left 1
            · simp only [Act.put, List.setIfInBounds_toArray, List.set_cons_zero, List.set_cons_succ]; rfl
            · intro w1 hs hf K hK
              go_big_quiet_op
              first
                | go_big_quiet_on
                | (refine ⟨_, fun _ _ => rfl, ?_⟩; go_big_quiet_on)
              rfl
          refine wpR_one (A' := ?_) Stp.refl (by rfl) _ rfl 130 (by rfl) (by rfl) ?_ ?_ ?_
          rotate_left 1
          · simp only [Act.put, List.setIfInBounds_toArray, List.set_cons_zero, List.set_cons_succ]; rfl
          · intro w1 hs hf K hK
            refine cls_load_cell 3 (.tmp 127) rfl ⟨W + 1, 1, none⟩ rfl (.int .i64 3) (fun w h => by simp [go_sem, h]) (fun w2 h2 => (Turn.of_below (stp_start (Stp.trans _ _ _ hs h2) (Below.refl _ _))).cell y1 (fun h => h)) ?_
            refine hK _ ?_
            simp only [Act.put, List.setIfInBounds_toArray, List.set_cons_zero, List.set_cons_succ]
            rfl
          refine wpR_rel (A' := ?_) (by rfl) ?_ ?_ ?_
          · intro w1 hs hf
            exact does_store_zl (.tmp 2) (.tmp 124) rfl rfl rfl ((show LBx _ W none 0 none 0 zL from HRe.out).turn (Turn.of_below (stp_start hs (Below.refl _ _))) (fun h => h))
          rotate_left 1
          · intro x
            simp only [Act.put, List.setIfInBounds_toArray, List.set_cons_zero, List.set_cons_succ]; rfl
          intro x26
          iterate 1
            refine wpR_one (A' := ?_) Stp.refl (by rfl) _ rfl 130 (by rfl) (by rfl) ?_ ?_ ?_
            rotate_left 1
            · simp only [Act.put, List.setIfInBounds_toArray, List.set_cons_zero, List.set_cons_succ]; rfl
            · intro w1 hs hf K hK
              go_big_quiet_op
              first
                | go_big_quiet_on
                | (refine ⟨_, fun _ _ => rfl, ?_⟩; go_big_quiet_on)
              rfl
          intro w9 hs hf
          have T9 := Lib.hid (Turn.of_below (stp_start hs (Below.refl _ _)))
          clear hs hf
          go_wp2_with fail
          refine bodyPost_ret (v := .tuple #[.agg ZLt, .int .i64 3]) ?_ rfl ⟨none, 0, none, 0, by (rw [HRV.out, HRE.out] <;> rfl), by rw [HRV.out]; exact zL_at _ _, HTe.out.trans T9.out (fun _ _ h => h)⟩
          exact results_lt Try.results16 _ _ W _ _ rfl rfl (T9.out.heap HRe.out (fun h => h)) rfl
    · obtain ⟨h1, h2⟩ := FIN.out.2.2 he
      have HRE := Lib.hid h1
      have HRV := Lib.hid h2
      have t1 : ((r5.e : Int) == 0) = false := by rw [beq_eq_false_iff_ne]; omega
      have t2 : ((r5.e : Int) != 0) = true := by simp; omega
      have HRe := Lib.hid D5.out.r
      have HTe := Lib.hid D5.out.n
      clear hny he h1 h2
      go_upto_region 26 with fail
      refine wp_region_rel 130 Stp ((.one ?_) :: (.one ?_) :: (.one ?_) :: (.one ?_) :: (.one ?_) :: (.rel (fun _ _ => True)) :: (.one ?_) :: []) (by kernel_rfl) (by kernel_rfl) rfl (by kernel_rfl) Stp.refl Stp.trans ⟨fun _ _ _ _ _ => trivial, trivial⟩ ?main
      case main =>
        iterate 4
          refine wpR_one (A' := ?_) Stp.refl (by rfl) _ rfl 130 (by rfl) (by rfl) ?_ ?_ ?_
          rotate_left 1
          · simp only [Act.put, List.setIfInBounds_toArray, List.set_cons_zero, List.set_cons_succ]; rfl
          · intro w1 hs hf K hK
            go_big_quiet_op
            first
              | go_big_quiet_on
              | (refine ⟨_, fun _ _ => rfl, ?_⟩; go_big_quiet_on)
            rfl
        refine wpR_one (A' := ?_) Stp.refl (by rfl) _ rfl 130 (by rfl) (by rfl) ?_ ?_ ?_
        rotate_left 1
        · simp only [Act.put, List.setIfInBounds_toArray, List.set_cons_zero, List.set_cons_succ]; rfl
        · intro w1 hs hf K hK
          refine cls_load_cell 3 (.tmp 127) rfl ⟨W + 1, 1, none⟩ rfl (.int .i64 (r5.e : Int)) (fun w h => by simp [go_sem, h]) (fun w2 h2 => (Turn.of_below (stp_start (Stp.trans _ _ _ hs h2) (Below.refl _ _))).cell y1 (fun h => h)) ?_
          refine hK _ ?_
          simp only [Act.put, List.setIfInBounds_toArray, List.set_cons_zero, List.set_cons_succ]
          rfl
        refine wpR_rel (A' := ?_) (by rfl) ?_ ?_ ?_
        · intro w1 hs hf
          exact does_store_zl (.tmp 2) (.tmp 124) rfl rfl rfl ((show LBx _ W none 0 none 0 zL from HRe.out).turn (Turn.of_below (stp_start hs (Below.refl _ _))) (fun h => h))
        rotate_left 1
        · intro x
          simp only [Act.put, List.setIfInBounds_toArray, List.set_cons_zero, List.set_cons_succ]; rfl
        intro x26
        iterate 1
          refine wpR_one (A' := ?_) Stp.refl (by rfl) _ rfl 130 (by rfl) (by rfl) ?_ ?_ ?_
          rotate_left 1
          · simp only [Act.put, List.setIfInBounds_toArray, List.set_cons_zero, List.set_cons_succ]; rfl
          · intro w1 hs hf K hK
            go_big_quiet_op
            first
              | go_big_quiet_on
              | (refine ⟨_, fun _ _ => rfl, ?_⟩; go_big_quiet_on)
            rfl
        intro w9 hs hf
        have T9 := Lib.hid (Turn.of_below (stp_start hs (Below.refl _ _)))
        clear hs hf
        go_wp2_with fail
        refine bodyPost_ret (v := .tuple #[.agg ZLt, .int .i64 (r5.e : Int)]) ?_ rfl ⟨none, 0, none, 0, by (rw [HRV.out, HRE.out] <;> rfl), by rw [HRV.out]; exact zL_at _ _, HTe.out.trans T9.out (fun _ _ h => h)⟩
        exact results_lt Try.results16 _ _ W _ _ rfl rfl (T9.out.heap HRe.out (fun h => h)) rfl
end Go.Proofs.Ytaicpclkdpbacaa
