/- The contract of the reader of a transaction. -/
import Derived.Test.YteaoaabjdgdcmaaTxQ
set_option linter.unusedVariables false
set_option linter.unusedSimpArgs false
namespace Go.Proofs.Yteaoaabjdgdcmaa
open Go.RowKit
def txC (Ai : Option Addr) (ci : Nat) (Ao : Option Addr) (co : Nat) (t : Ptx) : Array Value := #[.slice Ai t.ins.length ci, .slice Ao t.outs.length co, .int .u64 (t.fee : Int), .int .i64 t.exp]
/-- What the reader of a transaction comes to. -/
def BodPost (e E x : Nat) (N : Nat → Prop) (b : List B8) (w : World) (r : Ending) (w' : World) : Prop :=
  (bodE b = 0 ∧ r = .returned (.tuple #[]) ∧ (∃ G1 G2, w'.heap[x]? = some (.cells (txC (some ⟨G1, 0, none⟩) (bodV b).ins.length (some ⟨G2, 0, none⟩) (bodV b).outs.length (bodV b)) 28 (0, 0)) ∧ InsN w' (fun i => i < w.heap.size) (some ⟨G1, 0, none⟩) (bodV b).ins ∧ OusN w' (fun i => i < w.heap.size) (some ⟨G2, 0, none⟩) (bodV b).outs) ∧ Eye0 w' e E N (bodR b) ∧ Turn (fun i => i = e ∨ i = x) w w') ∨
  (bodE b ≠ 0 ∧ r = pan E ∧ EyeX w' e E (bodE b) ∧ Turn (fun i => i = e ∨ i = E ∨ i = x) w w')
set_option maxRecDepth 100000 in
theorem row4 {w : World} {x : Nat} {a b c d : Value} {t : TypeId} (h : w.heap[x]? = some (.cells #[a, b, c, d] t (0, 0))) :
    (w.cell? ⟨x, 0, none⟩ = some a ∧ w.cell? ⟨x, 1, none⟩ = some b ∧ w.cell? ⟨x, 2, none⟩ = some c ∧ w.cell? ⟨x, 3, none⟩ = some d) ∧ (w.frozen? ⟨x, 0, none⟩ = false ∧ w.frozen? ⟨x, 1, none⟩ = false ∧ w.frozen? ⟨x, 2, none⟩ = false ∧ w.frozen? ⟨x, 3, none⟩ = false) := by
  refine ⟨⟨?_, ?_, ?_, ?_⟩, frozen_of_row w x 0 _ _ h, frozen_of_row w x 1 _ _ h, frozen_of_row w x 2 _ _ h, frozen_of_row w x 3 _ _ h⟩ <;> rw [cell_of_row _ _ _ _ _ _ h] <;> rfl
set_option maxRecDepth 100000 in
theorem set_turn (w : World) (x o : Nat) (v : Value) : Turn (fun i => i = x) w (w.setCell ⟨x, o, none⟩ v) := (Turn.refl _ _).setCell _ _ (fun _ => rfl)
set_option maxRecDepth 100000 in
theorem bod_no {e E x : Nat} {N : Nat → Prop} {b : List B8} {w w1 w' : World} {k : Nat} (hX : bodE b = k) (hk : k ≠ 0) (he : EyeX w' e E k) (t1 : Turn (fun i => i = e ∨ i = x) w w1) (t2 : Turn (fun i => i = e ∨ i = E) w1 w') : BodPost e E x N b w (pan E) w' :=
  Or.inr ⟨by rw [hX]; exact hk, rfl, by rw [hX]; exact he, (t1.mono (fun _ _ h => by omega)).trans t2 (fun _ _ h => by omega)⟩
set_option maxRecDepth 100000 in
set_option maxHeartbeats 4000000 in
theorem read1_any (e E x : Nat) (N : Nat → Prop) (b : List B8) (a0 a1 a2 a3 : Value) (w : World) (h : Eye0 w e E N b) (hN : ∀ i, w.heap.size ≤ i → N i) (hx : w.heap[x]? = some (.cells #[a0, a1, a2, a3] 28 (0, 0))) (hxe : x ≠ e) (hxE : x ≠ E) (hNx : N x) :
    Calls Try.prog 11 #[.pointer (some ⟨e, 0, none⟩), .pointer (some ⟨x, 0, none⟩)] w (BodPost e E x N b w) := by
  obtain ⟨hle, hlE, hne, hNe, hNE, hll⟩ := h.lt
  have hlx := lt_of_block hx
  have T0 := Lib.hid (readIns_any e E N b w h hN)
  have HN := Lib.hid hN
  have HX := Lib.hid hx
  clear h hN hx
  go_enter Try.func11, Try.ntmps11
  go_wp2_with fail
  refine T0.out.mono ?_
  rintro r w1 (⟨hz, G1, rfl, hI1, he1, ht1⟩ | ⟨hz, rfl, he1, ht1⟩)
  · have hx1 := ht1.heap HX.out hxe
    obtain ⟨⟨c0, c1, c2, c3⟩, z0, z1, z2, z3⟩ := row4 hx1
    obtain ⟨n1, hn1⟩ : ∃ n1, n1 = numV b := ⟨_, rfl⟩
    rw [← hn1]
    have hlen1 : (rinsV b).length = n1 := by rw [hn1]; exact insV_len _ _
    have HLEN1 := Lib.hid hlen1
    have HZ1 := Lib.hid hz
    obtain ⟨w2, hw2⟩ : ∃ w2, w2 = w1.setCell ⟨x, 0, none⟩ (.slice (some ⟨G1, 0, none⟩) n1 n1) := ⟨_, rfl⟩
    have ht2 : Turn (fun i => i = x) w1 w2 := by rw [hw2]; exact set_turn _ _ _ _
    have HX2 := Lib.hid (show w2.heap[x]? = some (.cells #[.slice (some ⟨G1, 0, none⟩) n1 n1, a1, a2, a3] 28 (0, 0)) by rw [hw2, heap_setCell_same w1 x 0 _ _ _ hx1]; rfl)
    have HT2 := Lib.hid (show Turn (fun i => i = e ∨ i = x) w w2 from (ht1.mono (fun _ _ h => .inl h)).trans ht2 (fun _ _ h => .inr h))
    have HI2 := Lib.hid (hI1.turn (N' := fun i => i < w.heap.size) ht2 (fun i h => by have h' : i = x := h; show i < _; omega) (fun _ _ h => h))
    have he2 := he1.turn ht2 (fun h => hxe h.symm) (fun h => hxE h.symm) (fun i h => by rw [h]; exact hNx)
    have hs2 := HT2.out.size
    obtain ⟨l1, hl1⟩ : ∃ l1, l1 = rinsR b := ⟨_, rfl⟩
    rw [← hl1] at he2
    have HL1 := Lib.hid hl1
    have T2 := Lib.hid (readOuts_any e E N l1 w2 he2 (fun i h => HN.out i (by omega)))
    clear he1 ht1 hI1 hz hlen1 hx1 he2 ht2 hl1 T0 hn1
    go_upto_region 1 with fail
    rw [← hw2]
    clear hw2 c0 c1 c2 c3 z0 z1 z2 z3
    go_wp2_with fail
    refine T2.out.mono ?_
    rintro r w3 (⟨hz, G2, rfl, hI3, he3, ht3⟩ | ⟨hz, rfl, he3, ht3⟩)
    · have hx3 := ht3.heap HX2.out hxe
      obtain ⟨⟨c0, c1, c2, c3⟩, z0, z1, z2, z3⟩ := row4 hx3
      obtain ⟨n2, hn2⟩ : ∃ n2, n2 = numV l1 := ⟨_, rfl⟩
      rw [← hn2]
      have HLEN2 := Lib.hid (show (rousV l1).length = n2 by rw [hn2]; exact ousV_len _ _)
      have HZ2 := Lib.hid hz
      obtain ⟨w4, hw4⟩ : ∃ w4, w4 = w3.setCell ⟨x, 1, none⟩ (.slice (some ⟨G2, 0, none⟩) n2 n2) := ⟨_, rfl⟩
      have ht4 : Turn (fun i => i = x) w3 w4 := by rw [hw4]; exact set_turn _ _ _ _
      have HX4 := Lib.hid (show w4.heap[x]? = some (.cells #[.slice (some ⟨G1, 0, none⟩) n1 n1, .slice (some ⟨G2, 0, none⟩) n2 n2, a2, a3] 28 (0, 0)) by rw [hw4, heap_setCell_same w3 x 1 _ _ _ hx3]; rfl)
      have HT4 := Lib.hid (show Turn (fun i => i = e ∨ i = x) w w4 from (HT2.out.trans ht3 (fun _ _ h => .inl h)).trans ht4 (fun _ _ h => .inr h))
      have HI4 := Lib.hid ((HI2.out.turn (N' := fun i => i < w.heap.size) ht3 (fun i h => by have h' : i = e := h; show i < _; omega) (fun _ _ h => h)).turn (N' := fun i => i < w.heap.size) ht4 (fun i h => by have h' : i = x := h; show i < _; omega) (fun _ _ h => h))
      have HO4 := Lib.hid (hI3.turn (N' := fun i => i < w.heap.size) ht4 (fun i h => by have h' : i = x := h; show i < _; omega) (fun i _ h => by have h' : i < w.heap.size := h; show i < _; omega))
      have he4 := he3.turn ht4 (fun h => hxe h.symm) (fun h => hxE h.symm) (fun i h => by rw [h]; exact hNx)
      obtain ⟨l2, hl2⟩ : ∃ l2, l2 = rousR l1 := ⟨_, rfl⟩
      rw [← hl2] at he4
      have HL2 := Lib.hid hl2
      have HE4 := Lib.hid he4
      clear he3 ht3 hI3 hz hx3 he4 ht4 hl2 T2 hn2
      go_upto_region 2 with fail
      rw [← hw4]
      clear hw4 c0 c1 c2 c3 z0 z1 z2 z3
      by_cases htop : eNum topN l2 = 0
      · have T := Lib.hid (num_yes e E N topN l2 w4 HE4.out htop)
        have hy64 : numV l2 < 18446744073709551616 := numV_lt l2 (by unfold eNum at htop; split at htop <;> omega)
        have HHT := Lib.hid htop
        obtain ⟨y, hy⟩ : ∃ y, y = numV l2 := ⟨_, rfl⟩
        rw [← hy] at T hy64
        have HYY := Lib.hid hy
        clear htop hy
        go_wp2_with fail
        refine T.out.mono ?_
        rintro r w5 ⟨rfl, he5, ht5⟩
        have hx5 := ht5.heap HX4.out hxe
        obtain ⟨⟨c0, c1, c2, c3⟩, z0, z1, z2, z3⟩ := row4 hx5
        obtain ⟨w6, hw6⟩ : ∃ w6, w6 = w5.setCell ⟨x, 2, none⟩ (.int .u64 (y : Int)) := ⟨_, rfl⟩
        have ht6 : Turn (fun i => i = x) w5 w6 := by rw [hw6]; exact set_turn _ _ _ _
        have HX6 := Lib.hid (show w6.heap[x]? = some (.cells #[.slice (some ⟨G1, 0, none⟩) n1 n1, .slice (some ⟨G2, 0, none⟩) n2 n2, .int .u64 (y : Int), a3] 28 (0, 0)) by rw [hw6, heap_setCell_same w5 x 2 _ _ _ hx5]; rfl)
        have HV6 := Lib.hid (show Turn (fun i => i = e ∨ i = x) w4 w6 from (ht5.mono (fun _ _ h => .inl h)).trans ht6 (fun _ _ h => .inr h))
        have he6 := he5.turn ht6 (fun h => hxe h.symm) (fun h => hxE h.symm) (fun i h => by rw [h]; exact hNx)
        obtain ⟨l3, hl3⟩ : ∃ l3, l3 = numR l2 := ⟨_, rfl⟩
        rw [← hl3] at he6
        have HL3 := Lib.hid hl3
        have HE6 := Lib.hid he6
        clear he5 ht5 hx5 he6 ht6 hl3 T
        go_upto_region 3 with fail
        rw [← hw6]
        clear hw6 c0 c1 c2 c3 z0 z1 z2 z3
        by_cases h40 : eNum 1099511627776 l3 = 0
        · have T := Lib.hid (num_yes e E N 1099511627776 l3 w6 HE6.out h40)
          have hq40 : numV l3 ≤ 1099511627776 := by unfold eNum at h40; split at h40 <;> (try split at h40) <;> omega
          have HH4 := Lib.hid h40
          obtain ⟨q, hq⟩ : ∃ q, q = numV l3 := ⟨_, rfl⟩
          rw [← hq] at T hq40
          have HQQ := Lib.hid hq
          clear h40 hq
          go_wp2_with fail
          refine T.out.mono ?_
          rintro r w7 ⟨rfl, he7, ht7⟩
          have hx7 := ht7.heap HX6.out hxe
          obtain ⟨⟨c0, c1, c2, c3⟩, z0, z1, z2, z3⟩ := row4 hx7
          have ht8 := set_turn w7 x 3 (.int .i64 (q : Int))
          have HX8 := Lib.hid (show (w7.setCell ⟨x, 3, none⟩ (.int .i64 (q : Int))).heap[x]? = some (.cells #[.slice (some ⟨G1, 0, none⟩) n1 n1, .slice (some ⟨G2, 0, none⟩) n2 n2, .int .u64 (y : Int), .int .i64 (q : Int)] 28 (0, 0)) by rw [heap_setCell_same w7 x 3 _ _ _ hx7]; rfl)
          have HV8 := Lib.hid (show Turn (fun i => i = e ∨ i = x) w4 (w7.setCell ⟨x, 3, none⟩ (.int .i64 (q : Int))) from (HV6.out.trans ht7 (fun _ _ h => .inl h)).trans ht8 (fun _ _ h => .inr h))
          have HE8 := Lib.hid (he7.turn ht8 (fun h => hxe h.symm) (fun h => hxE h.symm) (fun i h => by rw [h]; exact hNx))
          have HB0 := Lib.hid (show bodE b = 0 by unfold bodE; rw [if_neg (by rw [HZ1.out]; omega), ← HL1.out, if_neg (by rw [HZ2.out]; omega), ← HL2.out, if_neg (by rw [HHT.out]; omega), ← HL3.out, HH4.out])
          have HBV := Lib.hid (show bodV b = ⟨rinsV b, rousV l1, y, (q : Int)⟩ by unfold bodV; rw [← HL1.out, ← HL2.out, ← HL3.out, ← HYY.out, ← HQQ.out])
          have HBR := Lib.hid (show bodR b = numR l3 by unfold bodR; rw [← HL1.out, ← HL2.out, ← HL3.out])
          clear he7 ht7 hx7 ht8 T
          go_wp2
          first | go_end0 | refine bodyPost_ret (results_none rfl _ _ _) rfl ?_
          refine Or.inl ⟨HB0.out, rfl, ⟨G1, G2, ?_, ?_, ?_⟩, by rw [HBR.out]; exact HE8.out, HT4.out.trans HV8.out (fun _ _ h => h)⟩
          · rw [HBV.out]
            unfold txC
            simp only [HLEN1.out, HLEN2.out]
            exact HX8.out
          · rw [HBV.out]
            exact HI4.out.turn HV8.out (fun i h => by show i < _; rcases h with h | h <;> omega) (fun _ _ h => h)
          · rw [HBV.out]
            exact HO4.out.turn HV8.out (fun i h => by show i < _; rcases h with h | h <;> omega) (fun _ _ h => h)
        · have T := Lib.hid (num_no e E N 1099511627776 l3 w6 HE6.out h40)
          have HX1 := Lib.hid (show bodE b = eNum 1099511627776 l3 by unfold bodE; rw [if_neg (by rw [HZ1.out]; omega), ← HL1.out, if_neg (by rw [HZ2.out]; omega), ← HL2.out, if_neg (by rw [HHT.out]; omega), ← HL3.out])
          have HH4 := Lib.hid h40
          clear h40
          go_wp2_with (go_at_call 14; refine T.out.mono ?_; rintro r w7 ⟨rfl, he7, ht7⟩; dsimp only [pan]; have HE7 := Lib.hid he7; have HT7 := Lib.hid ht7; clear he7 ht7)
          exact ⟨rfl, bod_no HX1.out HH4.out HE7.out (HT4.out.trans HV6.out (fun _ _ h => h)) HT7.out⟩
      · have T := Lib.hid (num_no e E N topN l2 w4 HE4.out htop)
        have HX1 := Lib.hid (show bodE b = eNum topN l2 by unfold bodE; rw [if_neg (by rw [HZ1.out]; omega), ← HL1.out, if_neg (by rw [HZ2.out]; omega), ← HL2.out, if_pos htop])
        have HHT := Lib.hid htop
        clear htop
        go_wp2_with (go_at_call 14; refine T.out.mono ?_; rintro r w7 ⟨rfl, he7, ht7⟩; dsimp only [pan]; have HE7 := Lib.hid he7; have HT7 := Lib.hid ht7; clear he7 ht7)
        exact ⟨rfl, bod_no HX1.out HHT.out HE7.out HT4.out HT7.out⟩
    · have HX1 := Lib.hid (show bodE b = rousE l1 by unfold bodE; rw [if_neg (by rw [HZ1.out]; omega), ← HL1.out, if_pos hz])
      have HE3 := Lib.hid he3
      have HT3 := Lib.hid ht3
      have HZ2 := Lib.hid hz
      clear he3 ht3 hz T2
      dsimp only [pan]
      go_wp2_with fail
      exact ⟨rfl, bod_no HX1.out HZ2.out HE3.out HT2.out HT3.out⟩
  · have HX1 := Lib.hid (show bodE b = rinsE b by unfold bodE; rw [if_pos hz])
    have HE1 := Lib.hid he1
    have HT1 := Lib.hid ht1
    have HZ1 := Lib.hid hz
    clear he1 ht1 hz T0
    dsimp only [pan]
    go_wp2_with fail
    exact ⟨rfl, bod_no HX1.out HZ1.out HE1.out (Turn.refl _ _) HT1.out⟩
end Go.Proofs.Yteaoaabjdgdcmaa
