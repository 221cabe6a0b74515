/- Merged: The landed 'Read' of certificates: the closure, and the whole. -/
import Derived.Test.YthoaaieiiokcmaaGreatDoorM32
namespace Go.Proofs.YthoaaieiiokcmaaGreatDoor
section
set_option linter.unusedVariables false
set_option linter.unusedSimpArgs false
open Go.RowKit
attribute [local go_sem ↓] loadAt_cr loadAt_hd loadAt_en loadAt_id
attribute [local go_sem] run_crLoad run_hdLoad run_enLoad run_idLoad rowOf_drew rowOf_drewN
/-- What the reader of a certificate comes to. -/
def RPostC (e E x : Nat) (N : Nat → Prop) (b : List B8) (w : World) (r : Ending) (w' : World) : Prop :=
  (readCE b = 0 ∧ r = .returned (.tuple #[]) ∧ ∃ G, (bodC b).L ∧ CAt w' x (bodC b) (some ⟨G, 0, none⟩) (numV (rr1 b)) ∧ IdsAt w' (some ⟨G, 0, none⟩) (pthV (rr1 b)) ∧ w.heap.size ≤ G ∧ Eye0 w' e E N [] ∧ Turn (fun i => i = e ∨ i = x) w w') ∨
  (readCE b ≠ 0 ∧ r = pan E ∧ EyeX w' e E (readCE b) ∧ Turn (fun i => i = e ∨ i = E ∨ i = x) w w')
set_option maxRecDepth 100000 in
set_option maxHeartbeats 4000000 in
theorem cread1_any (e E x : Nat) (N : Nat → Prop) (b : List B8) (ZC : Array Value) (hZ : ZC.size = 137) (w : World) (h : Eye0 w e E N b) (hN : ∀ i, w.heap.size ≤ i → N i) (hx : w.heap[x]? = some (.cells ZC 35 (0, 0))) (hxe : x ≠ e) (hxE : x ≠ E) (hNx : N x) :
    Calls Tryz.prog 39 #[.pointer (some ⟨e, 0, none⟩), .pointer (some ⟨x, 0, none⟩)] w (RPostC e E x N b w) := by
  have T := Lib.hid (creadFields_any e E N b w h hN)
  have HX := Lib.hid hx
  have HN := Lib.hid hNx
  have hxw : x < w.heap.size := lt_of_block hx
  have HZS := Lib.hid hZ
  clear h hN hx hNx hZ
  unfold FPostC at T
  go_enter Tryz.func39, Tryz.ntmps39
  go_wp2_with (go_at_call 40; refine stop ?_)
  unfold Stop
  refine T.out.mono ?_
  rintro r w1 (⟨hz, G, rfl, hL, hI, hG, he1, ht1⟩ | ⟨hz, rfl, he1, ht1⟩)
  · have HE1 := Lib.hid he1
    have HT1 := Lib.hid ht1
    have HZ9 := Lib.hid hz
    have HI := Lib.hid hI
    have HG := Lib.hid hG
    have HL := Lib.hid hL
    have X1 := Lib.hid (ht1.heap HX.out hxe)
    obtain ⟨C, hC⟩ : ∃ C, C = ((bodC b).cells (some ⟨G, 0, none⟩) (numV (rr1 b))).toArray := ⟨_, rfl⟩
    rw [← hC]
    have sC : C.size = 137 := by rw [hC, List.size_toArray, Crt.len _ _ _ hL]
    have K1 := Lib.hid (show (Tryz.prog.info? 35).map (·.size) = some C.size by rw [sC]; exact cr_info)
    have K2 := Lib.hid (show ZC.size = C.size by rw [sC, HZS.out])
    have K3 := Lib.hid (show C.all (·.oneCell') = true by rw [hC]; exact Crt.one _ _ _)
    have HC := Lib.hid hC
    clear he1 ht1 hz T hI hG hL hC sC
    go_wp2_with (refine wpList_store_row rfl _ _ _ rfl x C rfl rfl 35 ZC X1.out K1.out K2.out K3.out ?_)
    have h3 := setRow_heap w1 x ZC C 35 (0, 0) X1.out
    have t4 : Turn (fun i => i = x) w1 (w1.setRow x C) := (Turn.refl _ _).setRow _ _ (fun _ => rfl)
    refine bodyPost_ret (results_none rfl _ _ _) rfl (.inl ⟨HZ9.out, rfl, G, HL.out, ?_, ids_stay HI.out t4 (by have := HG.out; omega), HG.out, HE1.out.turn t4 (fun h => hxe h.symm) (fun h => hxE h.symm) (fun i h => by rw [h]; exact HN.out), (HT1.out.mono (fun _ _ h => .inl h)).trans t4 (fun _ _ h => .inr h)⟩)
    unfold CAt
    rw [h3, HC.out]
  · have HE1 := Lib.hid he1
    have HT1 := Lib.hid ht1
    have HZ9 := Lib.hid hz
    clear he1 ht1 hz T
    dsimp only [pan]
    go_wp2_with fail
    exact ⟨rfl, .inr ⟨HZ9.out, rfl, HE1.out, HT1.out.mono (fun _ _ h => h.elim .inl (fun h => .inr (.inl h)))⟩⟩
set_option maxRecDepth 100000 in
set_option maxHeartbeats 8000000 in
theorem cread_any (A : Option Addr) (c : Nat) (b : List B8) (w : World) (hs : Sl w w.heap.size A (b.map bv)) (hA : A = none → c = 0) (hc : b.length ≤ c) (hlen : b.length ≤ 1000000) :
    Calls Tryz.prog 12 #[.slice A b.length c] w (CPost b w) := by
  have hmf : ∀ (fn : Fn) (first cap : Array Value) (w : World), (Instr.makeFunc fn first cap).run Tryz.prog w = .ok (.func fn first cap) w := fun _ _ _ _ => rfl
  obtain ⟨ZC, hZC⟩ : ∃ L, L = (CZ.cells none 0).toArray := ⟨_, rfl⟩
  have hcz := cr_zero
  rw [← hZC] at hcz
  have sZ : ZC.size = 137 := by rw [hZC, List.size_toArray, Crt.len _ _ _ CZ_L]
  obtain ⟨w2, hw2⟩ : ∃ w2, w2 = (w.alloc (.cells ZC 35)).alloc (.cells ZC 35) := ⟨_, rfl⟩
  have s2 : w2.heap.size = w.heap.size + 2 := by rw [hw2]; simp
  have t2 : Turn (fun _ => False) w w2 := by rw [hw2]; exact ((Turn.refl _ _).alloc _).alloc _
  have gr : w2.heap[w.heap.size]? = some (.cells ZC 35 (0, 0)) := by rw [hw2]; exact heap_alloc2_old _ _ _
  have gx : w2.heap[w.heap.size + 1]? = some (.cells ZC 35 (0, 0)) := by rw [hw2]; exact heap_alloc2_new _ _ _
  have T := Lib.hid (read_cap 39 (.pointer (some ⟨w.heap.size + 1, 0, none⟩)) A c b w2 (fun i => i = w2.heap.size + 1 ∨ i = w2.heap.size ∨ i = w.heap.size + 1) (fun i => w.heap.size ≤ i)
    (fun l w3 => readCE b = 0 ∧ l = [] ∧ ∃ G, (bodC b).L ∧ CAt w3 (w.heap.size + 1) (bodC b) (some ⟨G, 0, none⟩) (numV (rr1 b)) ∧ IdsAt w3 (some ⟨G, 0, none⟩) (pthV (rr1 b)) ∧ w2.heap.size + 4 ≤ G ∧ Turn (fun i => i = w.heap.size + 1) w2 w3)
    (fun k w3 => readCE b = k ∧ Turn (fun i => i = w.heap.size + 1) w2 w3) (fun _ _ => by kernel_rfl)
    ((SlN.of hs (N := fun i => w.heap.size ≤ i) (fun i hi => by omega)).turn t2 (fun _ h => h.elim) (fun _ _ h => h)) hA hc (by omega) (by omega)
    (by
      intro w1 t1 s1 e1
      refine (cread1_any (w2.heap.size + 1) w2.heap.size (w.heap.size + 1) _ b ZC sZ w1 e1 (fun i hi => .inr (by omega)) (t1.heap gx (fun h => h)) (by omega) (by omega) (.inl (by omega))).mono ?_
      rintro r w3 (⟨hz, rfl, G, hL, hx, hI, hG, he, ht⟩ | ⟨hz, rfl, he, ht⟩)
      · exact ⟨ht.mono (fun i _ h => by omega), .inl ⟨rfl, _, he, hz, rfl, G, hL, hx, hI, by omega, (t1.mono (fun _ _ h => h.elim)).trans ht (fun i hi h => by omega)⟩⟩
      · exact ⟨ht.mono (fun i _ h => by omega), .inr ⟨rfl, _, hz, he, rfl, (t1.mono (fun _ _ h => h.elim)).trans ht (fun i hi h => by omega)⟩⟩))
  have GR := Lib.hid gr
  have T2 := Lib.hid t2
  have HS2 := Lib.hid s2
  have HSZ := Lib.hid sZ
  have HZC := Lib.hid hZC
  clear hs hlen gr gx t2 s2 sZ hZC
  go_enter Tryz.func12, Tryz.ntmps12
  go_upto_region 2 with fail
  change Code.wp _ _ _ _ ((w.alloc (.cells ZC 35)).alloc (.cells ZC 35))
  rw [← hw2]
  clear hw2
  go_wp2_with fail
  refine T.out.mono ?_
  rintro r w4 ⟨w3, ht4, (⟨l, ⟨hz, rfl, G, hL, hx, hI, hG, ht3⟩, rfl⟩ | ⟨k, hk, ⟨hz, ht3⟩, rfl⟩)⟩
  · have G4 := Lib.hid (ht4.heap (ht3.heap GR.out (by omega)) (by have := HS2.out; omega))
    have X4 := Lib.hid (show CAt w4 (w.heap.size + 1) (bodC b) (some ⟨G, 0, none⟩) (numV (rr1 b)) from ht4.heap hx (by have := HS2.out; omega))
    have I4 := Lib.hid (ids_stay hI ht4 (by omega))
    have T4 := Lib.hid (show Turn (fun _ => False) w w4 from (T2.out.trans ht3 (fun i hi h => by omega)).trans ht4 (fun i hi h => by have := HS2.out; omega))
    have HL := Lib.hid hL
    have HZ9 := Lib.hid hz
    have HG := Lib.hid (show w.heap.size < G by have := HS2.out; omega)
    clear hx ht3 ht4 hz T hL hI hG
    have HIF := Lib.hid (show (if ([] : List B8) = [] then (0 : Int) else 3) = 0 from if_pos rfl)
    rw [HIF.out]
    clear HIF
    have HRV := Lib.hid (show readCV b = bodC b by unfold readCV; rw [if_neg (by rw [HZ9.out]; decide)]; rfl)
    have hrow := (X4.out.facts HL.out).all
    obtain ⟨C, hC⟩ : ∃ C, C = ((bodC b).cells (some ⟨G, 0, none⟩) (numV (rr1 b))).toArray := ⟨_, rfl⟩
    rw [← hC] at hrow
    have sC : C.size = 137 := by rw [hC, List.size_toArray, Crt.len _ _ _ HL.out]
    have K1 := Lib.hid (show (Tryz.prog.info? 35).map (·.size) = some C.size by rw [sC]; exact cr_info)
    have K2 := Lib.hid (show ZC.size = C.size by rw [sC, HSZ.out])
    have K3 := Lib.hid (show C.all (·.oneCell') = true by rw [hC]; exact Crt.one _ _ _)
    have HC := Lib.hid hC
    have HSC := Lib.hid sC
    clear hC sC
    go_wp2_with (refine wpList_store_row rfl _ _ _ rfl w.heap.size C rfl rfl 35 ZC G4.out K1.out K2.out K3.out ?_)
    have h3 := setRow_heap w4 w.heap.size ZC C 35 (0, 0) G4.out
    have t5 : Turn (fun i => i = w.heap.size) w4 (w4.setRow w.heap.size C) := (Turn.refl _ _).setRow _ _ (fun _ => rfl)
    refine bodyPost_ret (v := .tuple #[.agg C, .int .i64 0]) ?_ rfl ⟨some ⟨G, 0, none⟩, numV (rr1 b), by rw [HRV.out, HZ9.out, HC.out]; rfl, ?_, T4.out.trans t5 (fun i hi h => by omega)⟩
    · exact results_cr Tryz.results12 _ _ w.heap.size _ _ rfl rfl h3 HSC.out
    · rw [HRV.out]
      exact ⟨ids_stay I4.out t5 (by have := HG.out; omega), by show (pthV (rr1 b)).length ≤ _; rw [pthV_len]; exact Nat.le_refl _, fun h => by cases h⟩
  · have G4 := Lib.hid (ht4.heap (ht3.heap GR.out (by omega)) (by have := HS2.out; omega))
    have T4 := Lib.hid (show Turn (fun _ => False) w w4 from (T2.out.trans ht3 (fun i hi h => by omega)).trans ht4 (fun i hi h => by have := HS2.out; omega))
    have HRE := Lib.hid (show readCE b = k from hz)
    have HKK := Lib.hid hk
    have hk1 : ((k : Int) == 0) = false := by simp; omega
    have hk2 : ((k : Int) != 0) = true := by simp; omega
    have K1 := Lib.hid (show (Tryz.prog.info? 35).map (·.size) = some ZC.size by rw [HSZ.out]; exact cr_info)
    have K3 := Lib.hid (show ZC.all (·.oneCell') = true by rw [HZC.out]; exact Crt.one _ _ _)
    clear T hz ht3 ht4 hk
    go_wp2_with (refine wpList_store_row rfl _ _ _ rfl w.heap.size ZC rfl rfl 35 ZC G4.out K1.out rfl K3.out ?_)
    have h3 := setRow_heap w4 w.heap.size ZC ZC 35 (0, 0) G4.out
    have t5 : Turn (fun i => i = w.heap.size) w4 (w4.setRow w.heap.size ZC) := (Turn.refl _ _).setRow _ _ (fun _ => rfl)
    refine bodyPost_ret (v := .tuple #[.agg ZC, .int .i64 (k : Int)]) ?_ rfl (c_err HZC.out HRE.out HKK.out (T4.out.trans t5 (fun i hi h => by omega)))
    exact results_cr Tryz.results12 _ _ w.heap.size _ _ rfl rfl h3 HSZ.out
end
end Go.Proofs.YthoaaieiiokcmaaGreatDoor
