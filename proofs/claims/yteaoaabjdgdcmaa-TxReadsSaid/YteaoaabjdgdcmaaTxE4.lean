/- The document's eye: id. -/
import Derived.Test.YteaoaabjdgdcmaaTxE3
import Derived.Deep.MidRow
set_option linter.unusedVariables false
set_option linter.unusedSimpArgs false
namespace Go.Proofs.Yteaoaabjdgdcmaa
open Go.RowKit
set_option maxRecDepth 100000 in
theorem YS.turn {w w' : World} {N N' : Nat → Prop} {y e : Nat} {l : List B8} {T : Nat → Prop} (h : YS w N y e l) (t : Turn T w w') (hy : ¬ T y) (hT : ∀ i, T i → N i) (hN : ∀ i, i < w.heap.size → N' i → N i) : YS w' N' y e l := by
  obtain ⟨A, c, n, hr, hl⟩ := h
  refine ⟨A, c, n, t.heap hr hy, fun h0 => ?_⟩
  obtain ⟨h1, h2, h3⟩ := hl h0
  exact ⟨h1, h2.turn t hT hN, h3⟩
set_option maxRecDepth 100000 in
theorem Gt.atD (g : Gt) (C : Array Value) (hC : C = g.cells.toArray) {w : World} {b : Nat} {t : TypeId} (h : w.heap[b]? = some (.cells C t (0, 0))) : w.rangeAt b 3 (g.f.d.map bv) := fun j v hj => by
  rw [cell_of_row _ _ _ _ _ _ h, hC, List.getElem?_toArray]
  have hlj := (List.getElem?_eq_some_iff.1 hj).1
  show ((g.f.cells) ++ [Value.int .i64 (g.e : Int), .slice g.A g.l.length g.c])[3 + j]? = some v
  unfold Fd.cells
  rw [List.append_assoc, List.getElem?_append_right (by simp), List.getElem?_append_left (by simp at hlj ⊢; omega)]
  simpa using hj
set_option maxRecDepth 100000 in
set_option maxHeartbeats 4000000 in
theorem eid_any (N : Nat → Prop) (y e : Nat) (l : List B8) (wA : World) (h : YS wA N y e l) (hNy : N y) (hN : ∀ i, wA.heap.size ≤ i → N i) :
    Calls Try.prog 16 #[.pointer (some ⟨y, 0, none⟩)] wA fun r w' => r = .returned (.agg ((dV (dE e l) l).map bv).toArray) ∧ YS w' N y (dE e l) (l.drop 32) ∧ Turn (fun i => i = y) wA w' := by
  have hyA : y < wA.heap.size := by obtain ⟨A, c, n, hr, -⟩ := h; exact lt_of_block hr
  obtain ⟨w, hw⟩ : ∃ w, w = wA.alloc (.cells zero32 37) := ⟨_, rfl⟩
  have tA : Turn (fun _ => False) wA w := by rw [hw]; exact (Turn.refl _ _).alloc _
  have gz : w.heap[wA.heap.size]? = some (.cells zero32 37 (0, 0)) := by rw [hw]; exact heap_alloc_new _ _
  have h := h.turn (N' := N) tA (fun h => h) (fun _ h => h.elim) (fun _ _ h => h)
  have HNA := Lib.hid hN
  have hN := fun i (hi : w.heap.size ≤ i) => hN i (by have := tA.size; omega)
  have HA0 := Lib.hid (And.intro tA gz)
  have hGy : ¬ wA.heap.size = y := by omega
  have hd32 : (dV (dE e l) l).length = 32 := dV_len _ _ (fun h => by unfold dE at h; split at h <;> (try split at h) <;> omega)
  clear tA gz
  obtain ⟨A, c, n, hr, hl⟩ := h
  obtain ⟨⟨c0, c1⟩, z0, z1⟩ := ys_row hr
  obtain ⟨E, hE⟩ : ∃ E, E = dE e l := ⟨_, rfl⟩
  rw [← hE]
  obtain ⟨CI, hCI⟩ : ∃ CI, CI = ((dV E l).map bv).toArray := ⟨_, rfl⟩
  rw [← hE] at hd32
  have hC32 : CI.size = 32 := by rw [hCI]; simpa using hd32
  have K1 := Lib.hid (show (Try.prog.info? 37).map (·.size) = some CI.size by rw [hC32]; kernel_rfl)
  have K2 := Lib.hid (show zero32.size = CI.size by rw [hC32]; rfl)
  have K3 := Lib.hid (show CI.all (·.oneCell') = true by rw [hCI, Array.all_eq_true_iff_forall_mem]; intro u hu; exact bv_one _ u (by simpa using hu))
  rw [← hCI]
  by_cases he : e = 0
  · subst he
    obtain ⟨rfl, hb, hll⟩ := hl rfl
    have hlt := lt_of_block hr
    have T := take_full N A c l.length l rfl ⟨2, 0, none, 0, [], zeros 32⟩ w rfl (.inr (.inr rfl)) (by show (0 : Nat) < _; decide) hb.s hb.a hb.c hll
    rw [FL_eqI] at T
    have T := Lib.hid T
    obtain ⟨n, hn⟩ : ∃ n, n = l.length := ⟨_, rfl⟩
    rw [← hn] at T c0
    have hHR := Lib.hid hr
    have hHL := Lib.hid (And.intro hll (And.intro hN hNy))
    have HLN := Lib.hid hn
    have HE := Lib.hid hE
    have HCI := Lib.hid (And.intro hCI hd32)
    clear hCI hd32
    clear hr hl hb hll hN hNy hn hE
    have hzd := zero_got
    change ∀ w, _ = Result.ok (Value.agg Z37) w at hzd
    go_enter Try.func16, Try.ntmps16
    go_upto_region 1 with fail
    change Code.wp _ _ _ _ (wA.alloc (.cells zero32 37))
    rw [← hw]
    clear hw
    go_wp2_with fail
    refine T.out.mono ?_
    rintro r w1 ⟨g, rfl, hd, hge, hgx, hg0, t1⟩
    obtain ⟨C, hC⟩ : ∃ C, C = g.cells.toArray := ⟨_, rfl⟩
    obtain ⟨sC, oC, a1, a2, a35, a36⟩ := g.at C hC hd
    rw [← hC]
    have HCC := Lib.hid hC
    have HD := Lib.hid hd
    clear hC
    have hr1 := t1.heap hHR.out (fun h => h)
    have HA := Lib.hid (show (w1.alloc (.cells Z37 80)).heap[w1.heap.size]? = some (.cells Z37 80 (0, 0)) from heap_alloc_new _ _)
    have H1 := Lib.hid (show (Try.prog.info? 80).map (·.size) = some C.size by rw [sC]; exact got_info)
    have H2 := Lib.hid (show Z37.size = C.size by rw [sC]; rfl)
    have H3 := Lib.hid oC
    go_wp2_with (refine wpList_store_row rfl _ _ _ rfl w1.heap.size C rfl rfl 80 Z37 HA.out H1.out H2.out H3.out ?_; refine stop ?_)
    unfold Stop
    obtain ⟨w2, hw2⟩ : ∃ w2, w2 = (w1.alloc (.cells Z37 80)).setRow w1.heap.size C := ⟨_, rfl⟩
    have t2 : Turn (fun _ => False) w1 w2 := by rw [hw2]; exact ((Turn.refl _ _).alloc _).setRow _ _ (fun h => by omega)
    have hr2 := t2.heap hr1 (fun h => h)
    have hg2 : w2.heap[w1.heap.size]? = some (.cells C 80 (0, 0)) := by rw [hw2]; exact setRow_heap _ _ _ _ _ _ HA.out
    have d1 : w2.cell? ⟨w1.heap.size, 1, none⟩ = some (.int .u64 (g.f.n : Int)) := by rw [cell_of_row _ _ _ _ _ _ hg2]; exact a1
    have d2 : w2.cell? ⟨w1.heap.size, 2, none⟩ = some (.slice g.f.A g.f.b.length g.f.c) := by rw [cell_of_row _ _ _ _ _ _ hg2]; exact a2
    have d35 : w2.cell? ⟨w1.heap.size, 35, none⟩ = some (.int .i64 (g.e : Int)) := by rw [cell_of_row _ _ _ _ _ _ hg2]; exact a35
    have d36 : w2.cell? ⟨w1.heap.size, 36, none⟩ = some (.slice g.A g.l.length g.c) := by rw [cell_of_row _ _ _ _ _ _ hg2]; exact a36
    obtain ⟨⟨e0, e1⟩, y0, y1⟩ := ys_row hr2
    have hne : ¬ w1.heap.size = y := by have := t1.size; omega
    have HT := Lib.hid (And.intro t1 (And.intro t2 hr2))
    have HT12 := Lib.hid (t1.trans t2 (fun _ _ h => h))
    have HG := Lib.hid (And.intro hge (And.intro hgx hg0))
    have HG2 := Lib.hid hg2
    change wpList _ _ _ _ _ ((w1.alloc (.cells Z37 80)).setRow w1.heap.size C)
    rw [← hw2]
    clear hw2 t1 t2 hr1 hr2 hg2 hge hgx hg0 c0 c1 z0 z1 sC oC a1 a2 a35 a36 hd
    obtain ⟨hge, hgx, hg0⟩ := HG.out
    have hes : sE ⟨2, 0, none, 0, [], zeros 32⟩ l = E := by rw [HE.out]; rfl
    have hv : g.f.d = dV E l := by
      by_cases h0 : E = 0
      · rw [(hg0 (by omega)).1.d]; unfold dV sD; rw [if_pos rfl, if_neg (by omega)]
      · rw [hgx (by omega)]; unfold dV; rw [if_pos h0]; rfl
    have HVV := Lib.hid hv
    clear hge hgx hg0 hes hv
    go_upto_region 6 with fail
    obtain ⟨w4, hw4⟩ : ∃ w4, w4 = (w2.setCell ⟨y, 0, none⟩ (.slice g.A g.l.length g.c)).setCell ⟨y, 1, none⟩ (.int .i64 (g.e : Int)) := ⟨_, rfl⟩
    obtain ⟨r1, r2⟩ := ys_set (a' := .slice g.A g.l.length g.c) (b' := .int .i64 (g.e : Int)) HT.out.2.2
    rw [← hw4] at r1 r2
    obtain ⟨hge, hgx, hg0⟩ := HG.out
    obtain ⟨q1, q2⟩ := ys_end (x := E) hge (by rw [HE.out]; rfl) hg0 hHL.out.1 hHL.out.2.1 hHL.out.2.2 HT12.out r1 r2
    have R4 := Lib.hid (show w4.rangeAt w1.heap.size 3 ((dV E l).map bv) by rw [← HVV.out]; exact g.atD C HCC.out (r2.heap HG2.out hne))
    have Z4 := Lib.hid (show w4.heap[wA.heap.size]? = some (.cells zero32 37 (0, 0)) from r2.heap (HT12.out.heap HA0.out.2 (fun h => h)) hGy)
    have L4 := Lib.hid (show (Try.prog.info? 37).map (·.size) = some ((dV E l).map bv).length by rw [List.length_map, HCI.out.2]; kernel_rfl)
    have Q1 := Lib.hid q1
    have Q2 := Lib.hid q2
    change Code.wp _ _ _ _ ((w2.setCell ⟨y, 0, none⟩ (.slice g.A g.l.length g.c)).setCell ⟨y, 1, none⟩ (.int .i64 (g.e : Int)))
    rw [← hw4]
    clear hw4 r1 r2 hge hgx hg0 q1 q2 d1 d2 d35 d36 e0 e1 y0 y1
    go_wp2_with (first
      | (refine wpList_load_mid (op := ⟨some 28, _, _, _, _, _⟩) rfl _ _ rfl w1.heap.size 3 rfl ((dV E l).map bv) _ R4.out Try.underlying37 rfl L4.out ?_; rw [← HCI.out.1])
      | (refine wpList_store_row rfl _ _ _ rfl wA.heap.size CI rfl rfl 37 _ Z4.out K1.out K2.out K3.out ?_))
    have h3 := setRow_heap w4 wA.heap.size zero32 CI 37 (0, 0) Z4.out
    have t4 : Turn (fun i => i = wA.heap.size) w4 (w4.setRow wA.heap.size CI) := (Turn.refl _ _).setRow _ _ (fun _ => rfl)
    have tAy : Turn (fun i => i = y) wA w := HA0.out.1.mono (fun _ _ h => h.elim)
    refine bodyPost_ret (v := .agg CI) ?_ rfl ⟨rfl, Q1.out.turn t4 (fun h => hGy h.symm) (fun i h => by rw [h]; exact HNA.out _ (Nat.le_refl _)) (fun _ _ h => h), (tAy.trans Q2.out (fun _ _ h => h)).trans t4 (fun i hi h => by have h' : i = wA.heap.size := h; omega)⟩
    exact results_cell_row Try.results16 _ _ wA.heap.size _ CI (0, 0) _ rfl h3 Try.underlying37 rfl K1.out
  · have hE' : E = e := by rw [hE]; unfold dE; rw [if_pos he]
    rw [hE']
    have t1 : ((e : Int) != 0) = true := by simp; omega
    have HR := Lib.hid hr
    have HE := Lib.hid he
    have HCI := Lib.hid (show CI = zero32 by rw [hCI, hE']; unfold dV; rw [if_pos he]; rfl)
    clear hE hE' hr hl hCI hd32
    generalize hlen : n = n' at *
    clear hlen
    have Z4 := Lib.hid HA0.out.2
    go_enter Try.func16, Try.ntmps16
    go_upto_region 1 with fail
    change Code.wp _ _ _ _ (wA.alloc (.cells zero32 37))
    rw [← hw]
    clear hw
    go_wp2_with (refine wpList_store_row rfl _ _ _ rfl wA.heap.size CI rfl (by rw [HCI.out]; rfl) 37 _ Z4.out K1.out K2.out K3.out ?_)
    have h3 := setRow_heap w wA.heap.size zero32 CI 37 (0, 0) Z4.out
    have t4 : Turn (fun i => i = wA.heap.size) w (w.setRow wA.heap.size CI) := (Turn.refl _ _).setRow _ _ (fun _ => rfl)
    have tAy : Turn (fun i => i = y) wA w := HA0.out.1.mono (fun _ _ h => h.elim)
    refine bodyPost_ret (v := .agg CI) ?_ rfl ⟨rfl, ⟨A, c, n', t4.heap HR.out (fun h => hGy h.symm), fun h => absurd h HE.out⟩, tAy.trans t4 (fun i hi h => by have h' : i = wA.heap.size := h; omega)⟩
    exact results_cell_row Try.results16 _ _ wA.heap.size _ CI (0, 0) _ rfl h3 Try.underlying37 rfl K1.out
end Go.Proofs.Yteaoaabjdgdcmaa
