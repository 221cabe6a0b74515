/- The contract of 'Read'. -/
import Derived.Test.YteaoaabjdgdcmaaTxR
import Derived.Laws.ResultCell
import Derived.Laws.Rows
set_option linter.unusedVariables false
set_option linter.unusedSimpArgs false
namespace Go.Proofs.Yteaoaabjdgdcmaa
open Go.RowKit
set_option maxRecDepth 100000 in
theorem eNum_le {m : Nat} {l : List B8} (h : eNum m l = 0) : numV l ≤ m ∧ numV l < 18446744073709551616 := by
  unfold eNum at h
  split at h
  · omega
  · rename_i h0
    have := numV_lt l (by omega)
    split at h <;> omega
set_option maxRecDepth 100000 in
theorem bodV_ok {b : List B8} (h : bodE b = 0) : (bodV b).ins.length ≤ 16 ∧ (bodV b).outs.length ≤ 16 ∧ (bodV b).fee < 18446744073709551616 ∧ 0 ≤ (bodV b).exp ∧ (bodV b).exp ≤ 1099511627776 := by
  unfold bodE at h
  split at h
  · omega
  · rename_i h1
    split at h
    · omega
    · rename_i h2
      split at h
      · omega
      · rename_i h3
        have a1 : eNum 16 b = 0 := by
          have h1' : rinsE b = 0 := by omega
          unfold rinsE at h1'
          split at h1' <;> omega
        have a2 : eNum 16 (rinsR b) = 0 := by
          have h2' : rousE (rinsR b) = 0 := by omega
          unfold rousE at h2'
          split at h2' <;> omega
        have b1 := eNum_le a1
        have b2 := eNum_le a2
        have b3 := eNum_le (m := topN) (l := rousR (rinsR b)) (by omega)
        have b4 := eNum_le h
        unfold bodV rinsV rousV
        simp only [insV_len, ousV_len]
        omega
set_option maxRecDepth 100000 in
theorem set4 {w : World} {x : Nat} {a b c d : Value} {t : TypeId} (h : w.heap[x]? = some (.cells #[a, b, c, d] t (0, 0))) (a' b' c' d' : Value) :
    ((((w.setCell ⟨x, 0, none⟩ a').setCell ⟨x, 1, none⟩ b').setCell ⟨x, 2, none⟩ c').setCell ⟨x, 3, none⟩ d').heap[x]? = some (.cells #[a', b', c', d'] t (0, 0)) ∧
    Turn (fun i => i = x) w ((((w.setCell ⟨x, 0, none⟩ a').setCell ⟨x, 1, none⟩ b').setCell ⟨x, 2, none⟩ c').setCell ⟨x, 3, none⟩ d') := by
  have h1 := heap_setCell_same w x 0 _ _ a' h
  have h2 := heap_setCell_same _ x 1 _ _ b' h1
  have h3 := heap_setCell_same _ x 2 _ _ c' h2
  have h4 := heap_setCell_same _ x 3 _ _ d' h3
  refine ⟨by rw [h4]; rfl, ?_⟩
  exact ((((Turn.refl (fun i => i = x) w).setCell _ _ (fun _ => rfl)).setCell _ _ (fun _ => rfl)).setCell _ _ (fun _ => rfl)).setCell _ _ (fun _ => rfl)
set_option maxRecDepth 100000 in
theorem results_tx {fn : Func} {p u : Tmp} (h : fn.results = #[.cell p 28, .tmp u]) (tmps : Array Value) (w : World) (g : Nat) (cs : Array Value) (v : Value)
    (hp : tmps.getD p undef = .pointer (some ⟨g, 0, none⟩)) (hv : tmps.getD u undef = v) (hg : w.heap[g]? = some (.cells cs 28 (0, 0))) (hc : cs.size = 4) :
    (results fn tmps).run Try.prog w = .ok (.tuple #[.agg cs, v]) w := by
  rw [results_cell_tmp h, hp, hv]
  simp [asAddr, run_loadVar_row w g 28 28 cs (0, 0) _ hg Try.underlying28 rfl (by rw [hc]; kernel_rfl), Result.andThen]
set_option maxRecDepth 100000 in
theorem exZ_at (w : World) (B : Nat) : TxAt w B none 0 none 0 exZ := ⟨fun i p hp => by simp [exZ] at hp, fun _ => rfl, by simp [exZ], by simp [exZ], fun i p hp => by simp [exZ] at hp, fun _ => rfl, by simp [exZ], by simp [exZ], by simp [exZ], by simp [exZ], by simp [exZ]⟩
set_option maxRecDepth 100000 in
set_option maxHeartbeats 4000000 in
theorem tread_any (A : Option Addr) (c : Nat) (b : List B8) (w : World) (hs : Sl w w.heap.size A (b.map bv)) (hA : A = none → c = 0) (hc : b.length ≤ c) (hlen : b.length ≤ 1099511627776) :
    Calls Try.prog 5 #[.slice A b.length c] w fun r w' => ∃ Ai ci Ao co, r = .returned (.tuple #[txV Ai ci Ao co (readV b), .int .i64 ((readE b : Nat) : Int)]) ∧ TxAt w' w'.heap.size Ai ci Ao co (readV b) ∧ Turn (fun _ => False) w w' := by
  have hmf : ∀ (fn : Fn) (first cap : Array Value) (w : World), (Instr.makeFunc fn first cap).run Try.prog w = .ok (.func fn first cap) w := fun _ _ _ _ => rfl
  obtain ⟨w2, hw2⟩ : ∃ w2, w2 = (w.alloc (.cells #[.slice none 0 0, .slice none 0 0, .int .u64 0, .int .i64 0] 28)).alloc (.cells #[.slice none 0 0, .slice none 0 0, .int .u64 0, .int .i64 0] 28) := ⟨_, rfl⟩
  have s2 : w2.heap.size = w.heap.size + 2 := by rw [hw2]; simp
  have t2 : Turn (fun _ => False) w w2 := by rw [hw2]; exact ((Turn.refl _ _).alloc _).alloc _
  have gr : w2.heap[w.heap.size]? = some (.cells #[.slice none 0 0, .slice none 0 0, .int .u64 0, .int .i64 0] 28 (0, 0)) := by rw [hw2]; exact heap_alloc2_old _ _ _
  have gx : w2.heap[w.heap.size + 1]? = some (.cells #[.slice none 0 0, .slice none 0 0, .int .u64 0, .int .i64 0] 28 (0, 0)) := by rw [hw2]; exact heap_alloc2_new _ _ _
  have T := Lib.hid (read_cap 11 (.pointer (some ⟨w.heap.size + 1, 0, none⟩)) A c b w2 (fun i => i = w2.heap.size + 1 ∨ i = w2.heap.size ∨ i = w.heap.size + 1) (fun i => w.heap.size ≤ i)
    (fun l w3 => bodE b = 0 ∧ l = bodR b ∧ (∃ G1 G2, w3.heap[w.heap.size + 1]? = some (.cells (txC (some ⟨G1, 0, none⟩) (bodV b).ins.length (some ⟨G2, 0, none⟩) (bodV b).outs.length (bodV b)) 28 (0, 0)) ∧ InsN w3 (fun i => i < w2.heap.size + 4) (some ⟨G1, 0, none⟩) (bodV b).ins ∧ OusN w3 (fun i => i < w2.heap.size + 4) (some ⟨G2, 0, none⟩) (bodV b).outs) ∧ Turn (fun i => i = w.heap.size + 1) w2 w3)
    (fun k w3 => bodE b = k ∧ Turn (fun i => i = w.heap.size + 1) w2 w3) (fun _ _ => by kernel_rfl)
    ((SlN.of hs (N := fun i => w.heap.size ≤ i) (fun i hi => by omega)).turn t2 (fun _ h => h.elim) (fun _ _ h => h)) hA hc hlen (by omega)
    (by
      intro w1 t1 s1 e1
      refine (read1_any (w2.heap.size + 1) w2.heap.size (w.heap.size + 1) _ b _ _ _ _ w1 e1 (fun i hi => .inr (by omega)) (t1.heap gx (fun h => h)) (by omega) (by omega) (.inl (by omega))).mono ?_
      rintro r w3 (⟨hz, rfl, ⟨G1, G2, hx, hI, hO⟩, he, ht⟩ | ⟨hz, rfl, he, ht⟩)
      · refine ⟨ht.mono (fun i _ h => by omega), .inl ⟨rfl, _, he, hz, rfl, ⟨G1, G2, hx, ?_, ?_⟩, (t1.mono (fun _ _ h => h.elim)).trans ht (fun i hi h => by omega)⟩⟩
        · rw [s1] at hI; exact hI
        · rw [s1] at hO; exact hO
      · exact ⟨ht.mono (fun i _ h => by omega), .inr ⟨rfl, _, hz, he, rfl, (t1.mono (fun _ _ h => h.elim)).trans ht (fun i hi h => by omega)⟩⟩))
  have GR := Lib.hid gr
  have T2 := Lib.hid t2
  have HS2 := Lib.hid s2
  clear hs hlen gr gx t2 s2
  go_enter Try.func5, Try.ntmps5
  go_upto_region 2 with fail
  change Code.wp _ _ _ _ ((w.alloc (.cells #[.slice none 0 0, .slice none 0 0, .int .u64 0, .int .i64 0] 28)).alloc (.cells #[.slice none 0 0, .slice none 0 0, .int .u64 0, .int .i64 0] 28))
  rw [← hw2]
  clear hw2
  go_wp2_with fail
  refine T.out.mono ?_
  rintro r w4 ⟨w3, ht4, (⟨l, ⟨hz, rfl, ⟨G1, G2, hx, hI, hO⟩, ht3⟩, rfl⟩ | ⟨k, hk, ⟨hz, ht3⟩, rfl⟩)⟩
  · have hg4 := ht4.heap (ht3.heap GR.out (by omega)) (by have := HS2.out; omega)
    have hx4 := ht4.heap hx (by have := HS2.out; omega)
    have HG4 := Lib.hid hg4
    have HX4 := Lib.hid hx4
    have HT4 := Lib.hid (show Turn (fun _ => False) w w4 from (T2.out.trans ht3 (fun i hi h => by omega)).trans ht4 (fun i hi h => by have := HS2.out; omega))
    have hI4 := hI.turn (N' := fun i => i < w2.heap.size) ht4 (fun i h => by have h' : i = w2.heap.size + 1 := h; show i < _; omega) (fun i _ h => by have h' : i < w2.heap.size := h; show i < _; omega)
    have hO4 := hO.turn (N' := fun i => i < w2.heap.size) ht4 (fun i h => by have h' : i = w2.heap.size + 1 := h; show i < _; omega) (fun i _ h => by have h' : i < w2.heap.size := h; show i < _; omega)
    have hbv := bodV_ok hz
    obtain ⟨b1, b2, b3, b4, b5⟩ := hbv
    have HTX := Lib.hid (fun (w' : World) (k : Turn (fun i => i = w.heap.size) w4 w') => show TxAt w' w'.heap.size (some ⟨G1, 0, none⟩) (bodV b).ins.length (some ⟨G2, 0, none⟩) (bodV b).outs.length (bodV b) from
      ⟨(hI4.turn (N' := fun _ => False) k (fun i h => by have h' : i = w.heap.size := h; have := HS2.out; show i < _; omega) (fun i _ h => h.elim)).at, (fun h => by cases h), Nat.le_refl _, by unfold maxLen; omega, (hO4.turn (N' := fun _ => False) k (fun i h => by have h' : i = w.heap.size := h; have := HS2.out; show i < _; omega) (fun i _ h => h.elim)).at, (fun h => by cases h), Nat.le_refl _, by unfold maxLen; omega, b3, by omega, by omega⟩)
    by_cases hl : bodR b = []
    · have HCK := Lib.hid (check_any _ _ _ _ _ _ w4 (HTX.out w4 (Turn.refl _ _)))
      have HIF := Lib.hid (show (if bodR b = [] then (0 : Int) else 3) = 0 by rw [if_pos hl])
      have HRE := Lib.hid (show readE b = chk (bodV b) by unfold readE; rw [if_neg (by omega), if_neg (by rw [hl]; simp)])
      have HRV := Lib.hid (show readV b = if chk (bodV b) ≠ 0 then exZ else bodV b by unfold readV; rw [HRE.out])
      clear T hz ht3 ht4 hg4 hx hx4 hI hO hI4 hO4 hl
      rw [HIF.out]
      obtain ⟨tv, htv⟩ : ∃ tv, tv = bodV b := ⟨_, rfl⟩
      rw [← htv] at HCK HRE HRV HTX HX4 b3 b4 b5
      clear htv b1 b2 HIF
      obtain ⟨z, hz⟩ : ∃ z, z = chk tv := ⟨_, rfl⟩
      rw [← hz] at HCK HRE HRV
      clear hz
      unfold txC at HX4
      obtain ⟨⟨c0, c1, c2, c3⟩, z0, z1, z2, z3⟩ := row4 HX4.out
      by_cases hz : z = 0
      · subst hz
        have HRV' := Lib.hid (show readV b = tv by rw [HRV.out]; simp)
        unfold txV at HCK
        clear HRV
        go_wp2_with fail
        refine HCK.out.mono ?_
        rintro r w5 ⟨rfl, t5⟩
        have hx5 := t5.heap HX4.out (fun h => h)
        have hg5 := t5.heap HG4.out (fun h => h)
        clear c0 c1 c2 c3 z0 z1 z2 z3
        obtain ⟨⟨c0, c1, c2, c3⟩, z0, z1, z2, z3⟩ := row4 hx5
        obtain ⟨⟨d0, d1, d2, d3⟩, y0, y1, y2, y3⟩ := row4 hg5
        have HG5 := Lib.hid hg5
        have HT5 := Lib.hid t5
        clear hx5 hg5 t5
        go_wp2_with fail
        have h5 := set4 HG5.out (.slice (some ⟨G1, 0, none⟩) tv.ins.length tv.ins.length) (.slice (some ⟨G2, 0, none⟩) tv.outs.length tv.outs.length) (.int .u64 (tv.fee : Int)) (.int .i64 tv.exp)
        refine bodyPost_ret (v := .tuple #[.agg #[.slice (some ⟨G1, 0, none⟩) tv.ins.length tv.ins.length, .slice (some ⟨G2, 0, none⟩) tv.outs.length tv.outs.length, .int .u64 (tv.fee : Int), .int .i64 tv.exp], .int .i64 0]) ?_ rfl ⟨_, tv.ins.length, _, tv.outs.length, by rw [HRV'.out, HRE.out]; rfl, by rw [HRV'.out]; exact HTX.out _ ((HT5.out.mono (fun _ _ h => h.elim)).trans h5.2 (fun _ _ h => h)), (HT4.out.trans HT5.out (fun _ _ h => h)).trans h5.2 (fun i hi h => absurd hi (by have h' : i = w.heap.size := h; omega))⟩
        exact results_tx Try.results5 _ _ w.heap.size _ _ rfl rfl h5.1 rfl
      · have HRV' := Lib.hid (show readV b = exZ by rw [HRV.out, if_pos hz])
        have hk1 : ((z : Int) != 0) = true := by simp; omega
        unfold txV at HCK
        clear HRV hz
        go_wp2_with fail
        refine HCK.out.mono ?_
        rintro r w5 ⟨rfl, t5⟩
        have hg5 := t5.heap HG4.out (fun h => h)
        clear c0 c1 c2 c3 z0 z1 z2 z3
        obtain ⟨⟨d0, d1, d2, d3⟩, y0, y1, y2, y3⟩ := row4 hg5
        have HG5 := Lib.hid hg5
        have HT5 := Lib.hid t5
        clear hg5 t5
        go_wp2_with fail
        have h5 := set4 HG5.out (.slice none 0 0) (.slice none 0 0) (.int .u64 0) (.int .i64 0)
        refine bodyPost_ret (v := .tuple #[.agg #[.slice none 0 0, .slice none 0 0, .int .u64 0, .int .i64 0], .int .i64 (z : Int)]) ?_ rfl ⟨none, 0, none, 0, by rw [HRV'.out, HRE.out]; rfl, by rw [HRV'.out]; exact exZ_at _ _, (HT4.out.trans HT5.out (fun _ _ h => h)).trans h5.2 (fun i hi h => absurd hi (by have h' : i = w.heap.size := h; omega))⟩
        exact results_tx Try.results5 _ _ w.heap.size _ _ rfl rfl h5.1 rfl
    · have HIF := Lib.hid (show (if bodR b = [] then (0 : Int) else 3) = 3 by rw [if_neg hl])
      have HRE := Lib.hid (show readE b = 3 by unfold readE; rw [if_neg (by omega), if_pos hl])
      have HRV := Lib.hid (show readV b = exZ by unfold readV; rw [HRE.out]; rfl)
      obtain ⟨⟨c0, c1, c2, c3⟩, z0, z1, z2, z3⟩ := row4 hg4
      clear T hz ht3 ht4 hg4 hx hx4 hI hO hI4 hO4 hl HTX b1 b2 b3 b4 b5
      rw [HIF.out]
      clear HIF
      go_wp2_with fail
      have h5 := set4 HG4.out (.slice none 0 0) (.slice none 0 0) (.int .u64 0) (.int .i64 0)
      refine bodyPost_ret (v := .tuple #[.agg #[.slice none 0 0, .slice none 0 0, .int .u64 0, .int .i64 0], .int .i64 (3 : Int)]) ?_ rfl ⟨none, 0, none, 0, by rw [HRV.out, HRE.out]; rfl, by rw [HRV.out]; exact exZ_at _ _, HT4.out.trans h5.2 (fun i hi h => absurd hi (by have h' : i = w.heap.size := h; omega))⟩
      exact results_tx Try.results5 _ _ w.heap.size _ _ rfl rfl h5.1 rfl
  · have hRE : readE b = k := by unfold readE; rw [if_pos (by rw [hz]; exact hk), hz]
    have hRV : readV b = exZ := by unfold readV; rw [if_pos (by rw [hRE]; exact hk)]
    have hg4 := ht4.heap (ht3.heap GR.out (by omega)) (by have := HS2.out; omega)
    obtain ⟨⟨c0, c1, c2, c3⟩, z0, z1, z2, z3⟩ := row4 hg4
    have HG4 := Lib.hid hg4
    have HT4 := Lib.hid (show Turn (fun _ => False) w w4 from (T2.out.trans ht3 (fun i hi h => by omega)).trans ht4 (fun i hi h => by have := HS2.out; omega))
    have HRE := Lib.hid hRE
    have HRV := Lib.hid hRV
    have hk1 : ((k : Int) == 0) = false := by simp; omega
    have hk2 : ((k : Int) != 0) = true := by simp; omega
    clear T hz ht3 ht4 hg4 hRE hRV hk
    go_wp2_with fail
    have h5 := set4 HG4.out (.slice none 0 0) (.slice none 0 0) (.int .u64 0) (.int .i64 0)
    refine bodyPost_ret (v := .tuple #[.agg #[.slice none 0 0, .slice none 0 0, .int .u64 0, .int .i64 0], .int .i64 (k : Int)]) ?_ rfl ⟨none, 0, none, 0, by rw [HRV.out, HRE.out]; rfl, by rw [HRV.out]; exact exZ_at _ _, HT4.out.trans h5.2 (fun i hi h => absurd hi (by have h' : i = w.heap.size := h; omega))⟩
    exact results_tx Try.results5 _ _ w.heap.size _ _ rfl rfl h5.1 rfl
end Go.Proofs.Yteaoaabjdgdcmaa
