/- Merged: Reading a certificate: 'within', 'readFields', the closure, 'Read'. -/
import Derived.Test.YthoaaieiiokcmaaGreatDoorM31
import Derived.Test.YthoaaieiiokcmaaGreatDoorM23
import Derived.OpenShut
import Derived.ChangeSlices
import Derived.WideOpen
import Derived.Test.YthoaaieiiokcmaaGreatDoorM19
import Derived.Test.YthoaaieiiokcmaaGreatDoorM09
import Derived.Test.YthoaaieiiokcmaaGreatDoorM04
namespace Go.Proofs.YthoaaieiiokcmaaGreatDoor
section
set_option linter.unusedVariables false
set_option linter.unusedSimpArgs false
open Go.RowKit
attribute [local go_sem ↓] loadAt_cr loadAt_hd loadAt_en loadAt_id
attribute [local go_sem] run_crLoad run_hdLoad run_enLoad run_idLoad rowOf_drew rowOf_drewN
set_option maxRecDepth 100000 in
set_option maxHeartbeats 4000000 in
theorem within_ent (e E : Nat) (N : Nat → Prop) (l : List B8) (A : Option Addr) (c : Nat) (b : List B8) (w : World) (h : Eye0 w e E N l) (hN : ∀ i, w.heap.size ≤ i → N i) (hB : Bts w A b) (hA : A = none → c = 0) (hc : b.length ≤ c) (hlen : b.length ≤ 1000000) :
    Calls Tryz.prog 73 #[.pointer (some ⟨e, 0, none⟩), .slice A b.length c, .func (.func 74) #[] #[]] w fun r w' =>
      (readE b = 0 ∧ r = .returned (.agg (readV b).cells.toArray) ∧ Eye0 w' e E N l ∧ Turn (fun _ => False) w w') ∨ (readE b ≠ 0 ∧ r = pan E ∧ EyeX w' e E (readE b) ∧ Turn (fun i => i = E) w w') := by
  have hzd := en_zero
  obtain ⟨w1, hw1⟩ : ∃ w1, w1 = w.alloc (.cells Z37E 27) := ⟨_, rfl⟩
  have t1 : Turn (fun _ => False) w w1 := by rw [hw1]; exact (Turn.refl _ _).alloc _
  have z1 : w1.heap[w.heap.size]? = some (.cells Z37E 27 (0, 0)) := by rw [hw1]; exact heap_alloc_new _ _
  have TR := Lib.hid (read_any' A c b w1 (bts_sl (bts_turn hB t1)) hA hc (by omega))
  obtain ⟨C, hC⟩ : ∃ C, C = (readV b).cells.toArray := ⟨_, rfl⟩
  have sC : C.size = 37 := by rw [hC, List.size_toArray, Ent.len _ (readV_d b)]
  have K1 := Lib.hid (show (Tryz.prog.info? 27).map (·.size) = some C.size by rw [sC]; exact en_info)
  have K2 := Lib.hid (show Z37E.size = C.size by rw [sC]; rfl)
  have K3 := Lib.hid (show C.all (·.oneCell') = true by rw [hC]; exact Ent.one _)
  obtain ⟨y, hy⟩ : ∃ y, y = readE b := ⟨_, rfl⟩
  rw [← hC, ← hy] at TR
  rw [← hC, ← hy]
  obtain ⟨bl, hbl⟩ : ∃ n, n = b.length := ⟨_, rfl⟩
  rw [← hbl] at TR ⊢
  have T1 := Lib.hid t1
  have Z1 := Lib.hid z1
  have HSC := Lib.hid sC
  have HE := Lib.hid h
  have HNW := Lib.hid (hN _ (Nat.le_refl _))
  have hle : e < w.heap.size ∧ E < w.heap.size := ⟨h.lt.1, h.lt.2.1⟩
  clear t1 z1 hC sC hy hbl h hN hB hA hc hlen
  go_enter Tryz.func73, Tryz.ntmps73
  go_upto_region 1 with fail
  change Code.wp _ _ _ _ (w.alloc (.cells Z37E 27))
  rw [← hw1]
  clear hw1
  go_upto_region 2 with (first
    | (go_at_call 74; refine TR.out.mono ?_; rintro r w2 ⟨rfl, t2⟩; have T2 := Lib.hid t2; clear t2)
    | (refine wpList_store_row rfl _ _ _ rfl w2.heap.size C rfl rfl 27 _ (heap_alloc_new w2 _) K1.out K2.out K3.out ?_; rw [World.setRow_alloc_new]))
  obtain ⟨w3, hw3⟩ : ∃ w3, w3 = w2.alloc (.cells C 27) := ⟨_, rfl⟩
  have t3 : Turn (fun _ => False) w1 w3 := by rw [hw3]; exact T2.out.alloc _
  have g3 : w3.heap[w2.heap.size]? = some (.cells C 27 (0, 0)) := by rw [hw3]; exact heap_alloc_new _ _
  have r3 : rowOf w3 w2.heap.size 0 37 = some C := by
    rw [rowOf_block (xs := C.toList) (by simpa using g3) 0 37 (by rw [Array.length_toList, HSC.out]; exact Nat.le_refl _)]
    rw [List.drop_zero, List.take_of_length_le (by rw [Array.length_toList, HSC.out]; exact Nat.le_refl _)]
  change Code.wp _ _ _ _ (w2.alloc (.cells C 27))
  rw [← hw3]
  have T13 := Lib.hid t3
  have HR3 := Lib.hid r3
  have HE3 := Lib.hid ((HE.out.turn T1.out (fun h => h) (fun h => h) (fun _ h => h.elim)).turn t3 (fun h => h) (fun h => h) (fun _ h => h.elim))
  clear hw3 t3 g3 T2 HE TR r3
  generalize w2.heap.size = q at *
  by_cases hz : y = 0
  · have TF := Lib.hid (fail_ok e w3)
    have Z3 := Lib.hid (T13.out.heap Z1.out (fun h => h))
    have HY := Lib.hid hz
    rw [hz]
    clear hz
    rw [show ((0 : Nat) : Int) = 0 from rfl]
    go_wp2_with (go_at_call 72; refine stop ?_)
    unfold Stop
    refine TF.out.mono ?_
    rintro r w4 ⟨rfl, hw4⟩
    rw [hw4]
    clear hw4 w4
    have r3 := HR3.out
    go_wp2_with (refine wpList_store_row rfl _ _ _ rfl w.heap.size C rfl rfl 27 Z37E Z3.out K1.out K2.out K3.out ?_)
    have h3 := setRow_heap w3 w.heap.size Z37E C 27 (0, 0) Z3.out
    have t5 : Turn (fun i => i = w.heap.size) w3 (w3.setRow w.heap.size C) := (Turn.refl _ _).setRow _ _ (fun _ => rfl)
    refine bodyPost_ret (v := .agg C) ?_ rfl (.inl ⟨by first | exact HY.out | rfl, rfl, ?_, (T1.out.trans T13.out (fun _ _ h => h)).trans t5 (fun i hi h => by omega)⟩)
    · exact results_cell_row Tryz.results73 _ _ w.heap.size _ C (0, 0) _ rfl h3 Tryz.underlying27 rfl K1.out
    · exact HE3.out.turn t5 (by omega) (by omega) (fun i h => by rw [h]; exact HNW.out)
  · have TF := Lib.hid (fail0 e E N y l w3 HE3.out hz)
    have HY := Lib.hid hz
    clear hz
    go_wp2_with (go_at_call 72; refine TF.out.mono ?_; rintro r w4 ⟨rfl, hx4, t4⟩; dsimp only [pan]; have HX4 := Lib.hid hx4; have HT4 := Lib.hid t4; clear hx4 t4)
    exact ⟨rfl, .inr ⟨HY.out, rfl, HX4.out, ((T1.out.trans T13.out (fun _ _ h => h)).mono (fun _ _ h => h.elim)).trans HT4.out (fun _ _ h => h)⟩⟩
set_option maxRecDepth 100000 in
set_option maxHeartbeats 4000000 in
theorem within_hdr (e E : Nat) (N : Nat → Prop) (l : List B8) (A : Option Addr) (c : Nat) (b : List B8) (w : World) (h : Eye0 w e E N l) (hN : ∀ i, w.heap.size ≤ i → N i) (hB : Bts w A b) (hA : A = none → c = 0) (hc : b.length ≤ c) (hlen : b.length ≤ 1000000) :
    Calls Tryz.prog 75 #[.pointer (some ⟨e, 0, none⟩), .slice A b.length c, .func (.func 76) #[] #[]] w fun r w' =>
      (hreadE b = 0 ∧ r = .returned (.agg (hreadV b).cells.toArray) ∧ Eye0 w' e E N l ∧ Turn (fun _ => False) w w') ∨ (hreadE b ≠ 0 ∧ r = pan E ∧ EyeX w' e E (hreadE b) ∧ Turn (fun i => i = E) w w') := by
  have hzd := hd_zero
  obtain ⟨w1, hw1⟩ : ∃ w1, w1 = w.alloc (.cells Z67H 33) := ⟨_, rfl⟩
  have t1 : Turn (fun _ => False) w w1 := by rw [hw1]; exact (Turn.refl _ _).alloc _
  have z1 : w1.heap[w.heap.size]? = some (.cells Z67H 33 (0, 0)) := by rw [hw1]; exact heap_alloc_new _ _
  have TR := Lib.hid (hread_any A c b w1 (bts_sl (bts_turn hB t1)) hA hc (by omega))
  obtain ⟨C, hC⟩ : ∃ C, C = (hreadV b).cells.toArray := ⟨_, rfl⟩
  have sC : C.size = 67 := by rw [hC, List.size_toArray, Hdr.len _ (hreadV_L b)]
  have K1 := Lib.hid (show (Tryz.prog.info? 33).map (·.size) = some C.size by rw [sC]; exact hd_info)
  have K2 := Lib.hid (show Z67H.size = C.size by rw [sC]; rfl)
  have K3 := Lib.hid (show C.all (·.oneCell') = true by rw [hC]; exact Hdr.one _)
  obtain ⟨y, hy⟩ : ∃ y, y = hreadE b := ⟨_, rfl⟩
  rw [← hC, ← hy] at TR
  rw [← hC, ← hy]
  obtain ⟨bl, hbl⟩ : ∃ n, n = b.length := ⟨_, rfl⟩
  rw [← hbl] at TR ⊢
  have T1 := Lib.hid t1
  have Z1 := Lib.hid z1
  have HSC := Lib.hid sC
  have HE := Lib.hid h
  have HNW := Lib.hid (hN _ (Nat.le_refl _))
  have hle : e < w.heap.size ∧ E < w.heap.size := ⟨h.lt.1, h.lt.2.1⟩
  clear t1 z1 hC sC hy hbl h hN hB hA hc hlen
  go_enter Tryz.func75, Tryz.ntmps75
  go_upto_region 1 with fail
  change Code.wp _ _ _ _ (w.alloc (.cells Z67H 33))
  rw [← hw1]
  clear hw1
  go_upto_region 2 with (first
    | (go_at_call 76; refine TR.out.mono ?_; rintro r w2 ⟨rfl, t2⟩; have T2 := Lib.hid t2; clear t2)
    | (refine wpList_store_row rfl _ _ _ rfl w2.heap.size C rfl rfl 33 _ (heap_alloc_new w2 _) K1.out K2.out K3.out ?_; rw [World.setRow_alloc_new]))
  obtain ⟨w3, hw3⟩ : ∃ w3, w3 = w2.alloc (.cells C 33) := ⟨_, rfl⟩
  have t3 : Turn (fun _ => False) w1 w3 := by rw [hw3]; exact T2.out.alloc _
  have g3 : w3.heap[w2.heap.size]? = some (.cells C 33 (0, 0)) := by rw [hw3]; exact heap_alloc_new _ _
  have r3 : rowOf w3 w2.heap.size 0 67 = some C := by
    rw [rowOf_block (xs := C.toList) (by simpa using g3) 0 67 (by rw [Array.length_toList, HSC.out]; exact Nat.le_refl _)]
    rw [List.drop_zero, List.take_of_length_le (by rw [Array.length_toList, HSC.out]; exact Nat.le_refl _)]
  change Code.wp _ _ _ _ (w2.alloc (.cells C 33))
  rw [← hw3]
  have T13 := Lib.hid t3
  have HR3 := Lib.hid r3
  have HE3 := Lib.hid ((HE.out.turn T1.out (fun h => h) (fun h => h) (fun _ h => h.elim)).turn t3 (fun h => h) (fun h => h) (fun _ h => h.elim))
  clear hw3 t3 g3 T2 HE TR r3
  generalize w2.heap.size = q at *
  by_cases hz : y = 0
  · have TF := Lib.hid (fail_ok e w3)
    have Z3 := Lib.hid (T13.out.heap Z1.out (fun h => h))
    have HY := Lib.hid hz
    rw [hz]
    clear hz
    rw [show ((0 : Nat) : Int) = 0 from rfl]
    go_wp2_with (go_at_call 72; refine stop ?_)
    unfold Stop
    refine TF.out.mono ?_
    rintro r w4 ⟨rfl, hw4⟩
    rw [hw4]
    clear hw4 w4
    have r3 := HR3.out
    go_wp2_with (refine wpList_store_row rfl _ _ _ rfl w.heap.size C rfl rfl 33 Z67H Z3.out K1.out K2.out K3.out ?_)
    have h3 := setRow_heap w3 w.heap.size Z67H C 33 (0, 0) Z3.out
    have t5 : Turn (fun i => i = w.heap.size) w3 (w3.setRow w.heap.size C) := (Turn.refl _ _).setRow _ _ (fun _ => rfl)
    refine bodyPost_ret (v := .agg C) ?_ rfl (.inl ⟨by first | exact HY.out | rfl, rfl, ?_, (T1.out.trans T13.out (fun _ _ h => h)).trans t5 (fun i hi h => by omega)⟩)
    · exact results_cell_row Tryz.results75 _ _ w.heap.size _ C (0, 0) _ rfl h3 Tryz.underlying33 rfl K1.out
    · exact HE3.out.turn t5 (by omega) (by omega) (fun i h => by rw [h]; exact HNW.out)
  · have TF := Lib.hid (fail0 e E N y l w3 HE3.out hz)
    have HY := Lib.hid hz
    clear hz
    go_wp2_with (go_at_call 72; refine TF.out.mono ?_; rintro r w4 ⟨rfl, hx4, t4⟩; dsimp only [pan]; have HX4 := Lib.hid hx4; have HT4 := Lib.hid t4; clear hx4 t4)
    exact ⟨rfl, .inr ⟨HY.out, rfl, HX4.out, ((T1.out.trans T13.out (fun _ _ h => h)).mono (fun _ _ h => h.elim)).trans HT4.out (fun _ _ h => h)⟩⟩
/-- The errors of a certificate's fields, one behind the other. -/
theorem readCE_eq (b : List B8) : readCE b = if eText 100 b ≠ 0 then eText 100 b else if pthE (rr1 b) ≠ 0 then pthE (rr1 b) else if eText 100 (rr3 b) ≠ 0 then eText 100 (rr3 b) else if (rr4 b).length < 32 then 2 else if rr5 b ≠ [] then 3 else if readE (rrE b) ≠ 0 then readE (rrE b) else hreadE (rrH b) := by
  have e1 : sE (tF 1 100) b = eText 100 b := rfl
  have e2 : sE (tF 0 32) (rr1 b) = eNum 32 (rr1 b) := rfl
  have e3 : sE (tF 1 100) (rr3 b) = eText 100 (rr3 b) := rfl
  have e4 : rr2 b = numR (rr1 b) := rfl
  have e5 : rrN b = numV (rr1 b) := rfl
  unfold readCE pthE
  rw [e1, e2, e3, e4, e5]
  by_cases h1 : eText 100 b ≠ 0
  · rw [if_pos h1, if_pos h1]
  · rw [if_neg h1, if_neg h1]
    by_cases h2 : eNum 32 (rr1 b) ≠ 0
    · rw [if_pos h2, if_pos h2, if_pos h2]
    · rw [if_neg h2, if_neg h2]
      by_cases h3 : (numR (rr1 b)).length < 32 * numV (rr1 b)
      · rw [if_pos h3, if_pos h3, if_pos (show (2 : Nat) ≠ 0 by decide)]
      · rw [if_neg h3, if_neg h3, if_neg (show ¬ (0 : Nat) ≠ 0 by decide)]
/-- What stands in the fields. -/
def bodC (b : List B8) : Crt := ⟨readV (rrE b), hreadV (rrH b), (rr4 b).take 32, pthV (rr1 b)⟩
theorem pthV_len (l : List B8) : (pthV l).length = numV l := by simp [pthV]
def FPostC (e E : Nat) (N : Nat → Prop) (b : List B8) (w : World) (r : Ending) (w' : World) : Prop :=
  (readCE b = 0 ∧ ∃ G, r = .returned (.agg ((bodC b).cells (some ⟨G, 0, none⟩) (numV (rr1 b))).toArray) ∧ (bodC b).L ∧ IdsAt w' (some ⟨G, 0, none⟩) (pthV (rr1 b)) ∧ w.heap.size ≤ G ∧ Eye0 w' e E N [] ∧ Turn (fun i => i = e) w w') ∨
  (readCE b ≠ 0 ∧ r = pan E ∧ EyeX w' e E (readCE b) ∧ Turn (fun i => i = e ∨ i = E) w w')
theorem fc_no {e E : Nat} {N : Nat → Prop} {b : List B8} {w w1 w' : World} {k : Nat} (hk : k ≠ 0) (hx : readCE b = k) (he : EyeX w' e E k) (t1 : Turn (fun i => i = e) w w1) (t2 : Turn (fun i => i = e ∨ i = E) w1 w') : FPostC e E N b w (pan E) w' :=
  .inr ⟨by rw [hx]; exact hk, rfl, by rw [hx]; exact he, (t1.mono (fun _ _ h => .inl h)).trans t2 (fun _ _ h => h)⟩
set_option maxRecDepth 100000 in
theorem own_sln {w : World} {B n c : Nat} {e : TypeId} {A : Option Addr} {xs : List Value} (h : w.ownsRow B e 1 (.slice A n c) n xs) : SlN w (fun i => i < B) A xs := fun j u hu => by
  rcases h.2 with ⟨e, h0⟩ | ⟨g, cap, cur, e, hB, hg, hc, hm, hcs, ht⟩
  · have hl := h.1
    injection e with e1 e2 e3
    subst e2
    have : xs = [] := List.eq_nil_of_length_eq_zero (by omega)
    subst this; simp at hu
  · injection e with e1 e2 e3
    subst e1
    exact ⟨_, rfl, by show ¬ g < B; omega, h.cells (g := g) rfl j u hu⟩
theorem own_txt {w : World} {B n : Nat} {v : Value} {xs : List B8} (h : w.ownsRow B 5 1 v n (xs.map bv)) : ∃ A c, v = .slice A xs.length c ∧ SlN w (fun i => i < B) A (xs.map bv) ∧ xs.length ≤ c ∧ (A = none → c = 0) := by
  obtain ⟨A, c, rfl, sl, hl, hc, ha⟩ := own_sl h
  rw [List.length_map] at hl
  refine ⟨A, c, by rw [hl], own_sln h, by omega, ha⟩
theorem sln_bts {w : World} {N : Nat → Prop} {A : Option Addr} {xs : List B8} (h : SlN w N A (xs.map bv)) : Bts w A xs := Bts.of_sl h.sl
theorem ids_stay {S : Nat → Prop} {w w' : World} {G : Nat} {ids : List (List B8)} (h : IdsAt w (some ⟨G, 0, none⟩) ids) (t : Turn S w w') (hS : ¬ S G) : IdsAt w' (some ⟨G, 0, none⟩) ids := fun i d hi => by
  obtain ⟨h1, b, o, e, hb, hr⟩ := h i d hi
  injection e with e
  injection e with e1 e2
  exact ⟨h1, b, o, by rw [e1, e2], by have := t.size; omega, t.range hr (by rw [← e1]; exact hS)⟩
theorem ids_L {w : World} {A : Option Addr} {ids : List (List B8)} (h : IdsAt w A ids) : ∀ d ∈ ids, d.length = 32 := fun d hd => by
  obtain ⟨i, hi⟩ := List.getElem?_of_mem hd
  exact (h i d hi).1
set_option maxRecDepth 100000 in
set_option maxHeartbeats 16000000 in
theorem creadFields_any (e E : Nat) (N : Nat → Prop) (b : List B8) (w : World) (h : Eye0 w e E N b) (hN : ∀ i, w.heap.size ≤ i → N i) :
    Calls Tryz.prog 40 #[.pointer (some ⟨e, 0, none⟩)] w (FPostC e E N b w) := by
  have hlt := h.lt
  have hle : e < w.heap.size := hlt.1
  have hlE : E < w.heap.size := hlt.2.1
  have CE := Lib.hid (readCE_eq b)
  obtain ⟨ZC, hZC⟩ : ∃ L, L = (CZ.cells none 0).toArray := ⟨_, rfl⟩
  have hcz := cr_zero
  rw [← hZC] at hcz
  have sZ : ZC.size = 137 := by rw [hZC, List.size_toArray, Crt.len _ _ _ CZ_L]
  obtain ⟨w2, hw2⟩ : ∃ w2, w2 = (w.alloc (.cells ZC 35)).alloc (.cells ZC 35) := ⟨_, rfl⟩
  have t2 : Turn (fun _ => False) w w2 := by rw [hw2]; exact ((Turn.refl _ _).alloc _).alloc _
  have R2 := Lib.hid (show w2.heap[w.heap.size]? = some (.cells ZC 35 (0, 0)) by rw [hw2]; exact heap_alloc2_old _ _ _)
  have E2 := Lib.hid (show CAt w2 (w.heap.size + 1) CZ none 0 by unfold CAt; rw [← hZC, hw2]; exact heap_alloc2_new _ _ _)
  have HE2 := Lib.hid (h.turn t2 (fun h => h) (fun h => h) (fun _ h => h.elim))
  have T2 := Lib.hid (show Turn (fun i => i = e) w w2 from t2.mono (fun _ _ h => h.elim))
  have HN := Lib.hid hN
  have HNX := Lib.hid (show N (w.heap.size + 1) from hN _ (by omega))
  have HNW := Lib.hid (show N w.heap.size from hN _ (Nat.le_refl _))
  have S2 := Lib.hid (show w2.heap.size = w.heap.size + 2 by rw [hw2]; simp)
  have HSZ := Lib.hid sZ
  clear h hN t2 hlt hZC sZ
  go_enter Tryz.func40, Tryz.ntmps40
  go_upto_region 2 with fail
  change Code.wp _ _ _ _ ((w.alloc (.cells ZC 35)).alloc (.cells ZC 35))
  rw [← hw2]
  clear hw2
  by_cases hx1 : eText 100 b = 0
  rotate_left 1
  · have TF := Lib.hid (text_no e E N 100 b w2 HE2.out hx1 (by decide) (by decide))
    have HX := Lib.hid (show readCE b = eText 100 b by rw [CE.out]; rw [if_pos hx1])
    have HK := Lib.hid hx1
    clear hx1
    go_wp2_with (go_at_call 69; refine TF.out.mono ?_; rintro r w99 ⟨rfl, he9, ht9⟩; dsimp only [pan]; have HE9 := Lib.hid he9; have HT9 := Lib.hid ht9; clear he9 ht9)
    exact ⟨rfl, fc_no HK.out HX.out HE9.out T2.out HT9.out⟩
  have TF := Lib.hid (text_yes e E N 100 b w2 HE2.out hx1 (by decide))
  obtain ⟨FE, hFE⟩ : ∃ F, F = rrE b := ⟨_, rfl⟩
  rw [show (numR b).take (numV b) = FE from hFE.symm, show (numR b).drop (numV b) = rr1 b from rfl] at TF
  have HFE := Lib.hid hFE
  clear hFE
  go_upto_region 3 with (go_at_call 69; refine TF.out.mono ?_; rintro r w3 ⟨v3, rfl, o3, he3, ht3⟩; obtain ⟨A3, c3, rfl, b3, hc3, ha3⟩ := own_txt o3; have HE3 := Lib.hid he3; have HT3 := Lib.hid ht3; have B3 := Lib.hid b3; have C3 := Lib.hid (And.intro hc3 ha3); clear o3 b3 hc3 ha3 he3 ht3 TF)
  have T3 := Lib.hid (T2.out.trans HT3.out (fun _ _ h => h))
  have E3 := Lib.hid (show CAt w3 (w.heap.size + 1) CZ none 0 from HT3.out.heap E2.out (by omega))
  have R3 := Lib.hid (HT3.out.heap R2.out (by omega))
  have S3 := Lib.hid (show w.heap.size + 2 ≤ w3.heap.size by have := S2.out; have := HT3.out.size; omega)
  have BB3 := Lib.hid (show SlN w3 (fun i => i < w.heap.size + 2) A3 (FE.map bv) by have h := B3.out; rw [S2.out] at h; exact h)
  have FEL := Lib.hid (show FE.length ≤ 100 by
    have hf := hx1
    rw [HFE.out]; show ((numR b).take (numV b)).length ≤ 100
    unfold eText at hf
    split at hf
    · omega
    · split at hf
      · omega
      · rw [List.length_take]; omega)
  have HX1 := Lib.hid hx1
  clear T2 E2 R2 S2 HE2 HT3 hx1 B3
  have TP := Lib.hid (readPath_any e E N (rr1 b) w3 HE3.out (fun i hi => HN.out i (by have := S3.out; omega)))
  unfold PthPost at TP
  go_wp2_with (go_at_call 70; refine stop ?_)
  unfold Stop
  refine TP.out.mono ?_
  rintro r w4 (⟨hz, G, rfl, hG, hI, he4, ht4⟩ | ⟨hz, rfl, he4, ht4⟩)
  rotate_left 1
  · have HK := Lib.hid hz
    have HX := Lib.hid (show readCE b = pthE (rr1 b) by rw [CE.out, if_neg (by rw [HX1.out]; decide), if_pos hz])
    have HE9 := Lib.hid he4
    have HT9 := Lib.hid ht4
    clear hz he4 ht4 TP
    dsimp only [pan]
    go_wp2_with fail
    exact ⟨rfl, fc_no HK.out HX.out HE9.out T3.out HT9.out⟩
  rw [show pthR (rr1 b) = rr3 b from rfl] at he4
  have HX2 := Lib.hid hz
  have hE4 : CAt w4 (w.heap.size + 1) CZ none 0 := ht4.heap E3.out (by omega)
  have c0 := (hE4.facts CZ_L).path
  have z0 := frozen_of_row w4 (w.heap.size + 1) 37 _ _ hE4
  have E4 := Lib.hid hE4
  have HE4 := Lib.hid he4
  have HT4 := Lib.hid ht4
  have HI4 := Lib.hid hI
  have HG := Lib.hid (show w.heap.size + 2 ≤ G by have := S3.out; omega)
  have HPL := Lib.hid (pthV_len (rr1 b))
  obtain ⟨ids, hids⟩ : ∃ l, l = pthV (rr1 b) := ⟨_, rfl⟩
  obtain ⟨n, hn⟩ : ∃ n, n = numV (rr1 b) := ⟨_, rfl⟩
  rw [← hids] at HI4 HPL
  rw [← hn] at HPL
  rw [← hn]
  have HID := Lib.hid hids
  have HNN := Lib.hid hn
  clear hz hG hI he4 ht4 TP hE4 hids hn
  go_upto_region 4 with fail
  have q5 := E4.out.setPath CZ_L (A' := some ⟨G, 0, none⟩) (c' := n) ids
  rw [HPL.out] at q5
  obtain ⟨e5, t5⟩ := q5
  obtain ⟨w5, hw5⟩ : ∃ v, v = w4.setCell ⟨w.heap.size + 1, 37, none⟩ (.slice (some ⟨G, 0, none⟩) n n) := ⟨_, rfl⟩
  change Code.wp _ _ _ _ (w4.setCell ⟨w.heap.size + 1, 37, none⟩ (.slice (some ⟨G, 0, none⟩) n n))
  rw [← hw5] at e5 t5 ⊢
  have LI5 := Lib.hid (ids_L HI4.out)
  have E5 := Lib.hid (show CAt w5 (w.heap.size + 1) ⟨EZ, HZ, zeros 32, ids⟩ (some ⟨G, 0, none⟩) n from e5)
  have I5 := Lib.hid (ids_stay HI4.out t5 (by have := HG.out; omega))
  have HE5 := Lib.hid (HE4.out.turn t5 (by omega) (by omega) (fun i h => by rw [h]; exact HNX.out))
  have R5 := Lib.hid (t5.heap (HT4.out.heap R3.out (by omega)) (by omega))
  have T5 := Lib.hid (show Turn (fun i => i = e) w w5 from (T3.out.trans HT4.out (fun _ _ h => h)).trans t5 (fun i hi h => by omega))
  have S5 := Lib.hid (show w.heap.size + 2 ≤ w5.heap.size from by have := S3.out; have := HT4.out.size; have := t5.size; omega)
  have BB5 := Lib.hid ((BB3.out.turn HT4.out (N' := fun i => i < w.heap.size + 2) (fun i h => by omega) (fun _ _ h => h)).turn t5 (N' := fun i => i < w.heap.size + 2) (fun i h => by omega) (fun _ _ h => h))
  clear hw5 e5 t5 c0 z0 E4 HE4 HT4 HI4 E3 R3 T3 S3 HE3 BB3
  by_cases hx3 : eText 100 (rr3 b) = 0
  rotate_left 1
  · have TF := Lib.hid (text_no e E N 100 (rr3 b) w5 HE5.out hx3 (by decide) (by decide))
    have HX := Lib.hid (show readCE b = eText 100 (rr3 b) by rw [CE.out]; rw [if_neg (by rw [HX1.out]; decide), if_neg (by rw [HX2.out]; decide)]; rw [if_pos hx3])
    have HK := Lib.hid hx3
    clear hx3
    go_wp2_with (go_at_call 69; refine TF.out.mono ?_; rintro r w99 ⟨rfl, he9, ht9⟩; dsimp only [pan]; have HE9 := Lib.hid he9; have HT9 := Lib.hid ht9; clear he9 ht9)
    exact ⟨rfl, fc_no HK.out HX.out HE9.out T5.out HT9.out⟩
  have TF := Lib.hid (text_yes e E N 100 (rr3 b) w5 HE5.out hx3 (by decide))
  obtain ⟨FH, hFH⟩ : ∃ F, F = rrH b := ⟨_, rfl⟩
  rw [show (numR (rr3 b)).take (numV (rr3 b)) = FH from hFH.symm, show (numR (rr3 b)).drop (numV (rr3 b)) = rr4 b from rfl] at TF
  have HFH := Lib.hid hFH
  clear hFH
  go_upto_region 5 with (go_at_call 69; refine TF.out.mono ?_; rintro r w6 ⟨v6, rfl, o3, he3, ht3⟩; obtain ⟨A6, c6, rfl, b3, hc3, ha3⟩ := own_txt o3; have HE6 := Lib.hid he3; have HT6 := Lib.hid ht3; have B6 := Lib.hid b3; have C6 := Lib.hid (And.intro hc3 ha3); clear o3 b3 hc3 ha3 he3 ht3 TF)
  have T6 := Lib.hid (T5.out.trans HT6.out (fun _ _ h => h))
  have E6 := Lib.hid (show CAt w6 (w.heap.size + 1) ⟨EZ, HZ, zeros 32, ids⟩ (some ⟨G, 0, none⟩) n from HT6.out.heap E5.out (by omega))
  have I6 := Lib.hid (ids_stay I5.out HT6.out (by have := HG.out; omega))
  have R6 := Lib.hid (HT6.out.heap R5.out (by omega))
  have S6 := Lib.hid (show w.heap.size + 2 ≤ w6.heap.size by have := S5.out; have := HT6.out.size; omega)
  have BB6 := Lib.hid (BB5.out.turn HT6.out (N' := fun i => i < w.heap.size + 2) (fun i h => by omega) (fun _ _ h => h))
  have BH6 := Lib.hid (B6.out.turn (Turn.refl (fun _ => False) w6) (N' := fun i => i < w.heap.size + 2) (fun i h => h.elim) (fun i _ h => by have := S5.out; omega))
  have FHL := Lib.hid (show FH.length ≤ 100 by
    have hf := hx3
    rw [HFH.out]; show ((numR (rr3 b)).take (numV (rr3 b))).length ≤ 100
    unfold eText at hf
    split at hf
    · omega
    · split at hf
      · omega
      · rw [List.length_take]; omega)
  have HX3 := Lib.hid hx3
  clear T5 E5 R5 S5 HE5 HT6 hx3 B6 BB5 I5
  by_cases hx4 : 32 ≤ (rr4 b).length
  rotate_left 1
  · have TF := Lib.hid (id_no e E N (rr4 b) w6 HE6.out (by omega))
    have HX := Lib.hid (show readCE b = 2 by rw [CE.out, if_neg (by rw [HX1.out]; decide), if_neg (by rw [HX2.out]; decide), if_neg (by rw [HX3.out]; decide), if_pos (by omega)])
    clear hx4
    go_wp2_with (go_at_call 71; refine TF.out.mono ?_; rintro r w99 ⟨rfl, he9, ht9⟩; dsimp only [pan]; have HE9 := Lib.hid he9; have HT9 := Lib.hid ht9; clear he9 ht9)
    exact ⟨rfl, fc_no (by decide) HX.out HE9.out T6.out HT9.out⟩
  have TF := Lib.hid (id_yes e E N (rr4 b) w6 HE6.out hx4)
  obtain ⟨xT, hT⟩ : ∃ V, V = (rr4 b).take 32 := ⟨_, rfl⟩
  have HLT := Lib.hid (show xT.length = 32 by rw [hT, List.length_take]; omega)
  rw [← hT, show (rr4 b).drop 32 = rr5 b from rfl] at TF
  obtain ⟨DT, hDT⟩ : ∃ DA, DA = (xT.map bv).toArray := ⟨_, rfl⟩
  rw [← hDT] at TF
  have sD : DT.size = 32 := by rw [hDT]; simpa using HLT.out
  have Q1 := Lib.hid (show (Tryz.prog.info? 24).map (·.size) = some DT.size by rw [sD]; kernel_rfl)
  have Q2 := Lib.hid (show DT.all (·.oneCell') = true by rw [hDT]; exact bvs_one _)
  have Q3 := Lib.hid sD
  have HDT := Lib.hid hDT
  have HT := Lib.hid hT
  have HX4 := Lib.hid hx4
  clear hT hDT sD hx4
  go_wp2_with fail
  refine TF.out.mono ?_
  rintro r w7 ⟨rfl, he7, ht7⟩
  have HE7 := Lib.hid he7
  have HT7 := Lib.hid ht7
  have L6 := Lib.hid (show (⟨EZ, HZ, zeros 32, ids⟩ : Crt).L from ⟨rfl, HZ_L, rfl, LI5.out⟩)
  have E7 := Lib.hid (show CAt w7 (w.heap.size + 1) ⟨EZ, HZ, zeros 32, ids⟩ (some ⟨G, 0, none⟩) n from ht7.heap E6.out (by omega))
  clear he7 ht7 TF
  have TH := Lib.hid (show w7.there (w.heap.size + 1) 105 DT.size by rw [Q3.out]; exact E7.out.there L6.out 105 32 (by omega))
  go_upto_region 6 with (refine wpList_store_mid rfl _ _ _ rfl (w.heap.size + 1) 105 DT rfl rfl TH.out Q1.out Q2.out ?_)
  obtain ⟨e8, t8⟩ := E7.out.setT L6.out xT HLT.out
  rw [show xT.map bv = DT.toList by rw [HDT.out]] at e8 t8
  obtain ⟨w8, hw8⟩ : ∃ v, v = w7.setCells (w.heap.size + 1) 105 DT.toList := ⟨_, rfl⟩
  change Code.wp _ _ _ _ (w7.setCells (w.heap.size + 1) 105 DT.toList)
  rw [← hw8] at e8 t8 ⊢
  have E8 := Lib.hid (show CAt w8 (w.heap.size + 1) ⟨EZ, HZ, xT, ids⟩ (some ⟨G, 0, none⟩) n from e8)
  have I8 := Lib.hid (ids_stay (ids_stay I6.out HT7.out (by have := HG.out; omega)) t8 (by have := HG.out; omega))
  have HE8 := Lib.hid (HE7.out.turn t8 (by omega) (by omega) (fun i h => by rw [h]; exact HNX.out))
  have R8 := Lib.hid (t8.heap (HT7.out.heap R6.out (by omega)) (by omega))
  have T8 := Lib.hid (show Turn (fun i => i = e) w w8 from (T6.out.trans HT7.out (fun _ _ h => h)).trans t8 (fun i hi h => by omega))
  have S8 := Lib.hid (show w.heap.size + 2 ≤ w8.heap.size from by have := S6.out; have := HT7.out.size; have := t8.size; omega)
  have BB8 := Lib.hid ((BB6.out.turn HT7.out (N' := fun i => i < w.heap.size + 2) (fun i h => by omega) (fun _ _ h => h)).turn t8 (N' := fun i => i < w.heap.size + 2) (fun i h => by omega) (fun _ _ h => h))
  have BH8 := Lib.hid ((BH6.out.turn HT7.out (N' := fun i => i < w.heap.size + 2) (fun i h => by omega) (fun _ _ h => h)).turn t8 (N' := fun i => i < w.heap.size + 2) (fun i h => by omega) (fun _ _ h => h))
  clear hw8 e8 t8 E7 HE7 HT7 TH E6 R6 T6 S6 HE6 BB6 BH6 I6
  have TL := Lib.hid (show Calls Tryz.prog 68 #[.pointer (some ⟨e, 0, none⟩)] w8 fun r w' => r = .returned (.int .i64 ((rr5 b).length : Int)) ∧ w' = w8 from by
    obtain ⟨A', c', h', -⟩ := HE8.out
    exact left_any e E A' (rr5 b).length c' 0 w8 h')
  by_cases hx5 : rr5 b = []
  rotate_left 1
  · have TF := Lib.hid (fail0 e E N 3 (rr5 b) w8 HE8.out (by decide))
    rw [show ((3 : Nat) : Int) = 3 from rfl] at TF
    have HX := Lib.hid (show readCE b = 3 by rw [CE.out, if_neg (by rw [HX1.out]; decide), if_neg (by rw [HX2.out]; decide), if_neg (by rw [HX3.out]; decide), if_neg (by have := HX4.out; omega), if_pos hx5])
    have hpos : decide ((0 : Int) < ((rr5 b).length : Int)) = true := decide_eq_true (by have := List.length_pos_iff.2 hx5; omega)
    have hpos' : decide (0 < (rr5 b).length) = true := decide_eq_true (List.length_pos_iff.2 hx5)
    clear hx5
    generalize (rr5 b).length = m at *
    go_wp2_with (first
      | (go_at_call 68; refine TL.out.mono ?_; rintro r w99 ⟨rfl, hw9⟩; rw [hw9]; clear hw9 w99)
      | (go_at_call 72; refine TF.out.mono ?_; rintro r w99 ⟨rfl, he9, ht9⟩; dsimp only [pan]; have HE9 := Lib.hid he9; have HT9 := Lib.hid ht9; clear he9 ht9))
    exact ⟨rfl, fc_no (by decide) HX.out HE9.out T8.out (HT9.out.mono (fun _ _ h => .inr h))⟩
  rw [hx5] at TL HE8
  rw [show ((([] : List B8).length : Nat) : Int) = 0 from rfl] at TL
  have HX5 := Lib.hid hx5
  clear hx5
  go_upto_region 8 with (go_at_call 68; refine TL.out.mono ?_; rintro r w99 ⟨rfl, hw9⟩; rw [hw9]; clear hw9 w99)
  clear TL
  have TW := Lib.hid (within_ent e E N [] A3 c3 FE w8 HE8.out (fun i hi => HN.out i (by have := S8.out; omega)) (sln_bts BB8.out) C3.out.2 C3.out.1 (by have := FEL.out; omega))
  go_wp2_with (go_at_call 73; refine stop ?_)
  unfold Stop
  refine TW.out.mono ?_
  rintro r w9 (⟨hz, rfl, he9, ht9⟩ | ⟨hz, rfl, he9, ht9⟩)
  rotate_left 1
  · have HK := Lib.hid hz
    have HX := Lib.hid (show readCE b = readE FE by rw [CE.out, if_neg (by rw [HX1.out]; decide), if_neg (by rw [HX2.out]; decide), if_neg (by rw [HX3.out]; decide), if_neg (by have := HX4.out; omega), if_neg (fun k => k HX5.out), if_pos (by rw [← HFE.out]; exact hz), ← HFE.out])
    have HE9 := Lib.hid he9
    have HT9 := Lib.hid ht9
    clear hz he9 ht9 TW
    dsimp only [pan]
    go_wp2_with fail
    exact ⟨rfl, fc_no HK.out HX.out HE9.out T8.out (HT9.out.mono (fun _ _ h => .inr h))⟩
  have HX10 := Lib.hid hz
  have HE9 := Lib.hid he9
  have HT9 := Lib.hid ht9
  have L9 := Lib.hid (show (⟨EZ, HZ, xT, ids⟩ : Crt).L from ⟨rfl, HZ_L, HLT.out, LI5.out⟩)
  have E9 := Lib.hid (show CAt w9 (w.heap.size + 1) ⟨EZ, HZ, xT, ids⟩ (some ⟨G, 0, none⟩) n from ht9.heap E8.out (fun h => h))
  obtain ⟨D9, hD9⟩ : ∃ D, D = (readV FE).cells.toArray := ⟨_, rfl⟩
  have sD : D9.size = 37 := by rw [hD9, List.size_toArray, Ent.len _ (readV_d FE)]
  have Q1 := Lib.hid (show (Tryz.prog.info? 27).map (·.size) = some D9.size by rw [sD]; exact en_info)
  have Q2 := Lib.hid (show D9.all (·.oneCell') = true by rw [hD9]; exact Ent.one _)
  have TH := Lib.hid (show w9.there (w.heap.size + 1) 0 D9.size by rw [sD]; exact E9.out.there L9.out 0 37 (by omega))
  have HD9 := Lib.hid hD9
  rw [← hD9]
  clear hz he9 ht9 TW hD9 sD
  go_upto_region 9 with (refine wpList_store_mid rfl _ _ _ rfl (w.heap.size + 1) 0 D9 rfl rfl TH.out Q1.out Q2.out ?_)
  obtain ⟨ee, tt⟩ := E9.out.setE L9.out (readV FE) (readV_d FE)
  rw [show (readV FE).cells = D9.toList by rw [HD9.out]] at ee tt
  obtain ⟨w10, hwr⟩ : ∃ v, v = w9.setCells (w.heap.size + 1) 0 D9.toList := ⟨_, rfl⟩
  change Code.wp _ _ _ _ (w9.setCells (w.heap.size + 1) 0 D9.toList)
  rw [← hwr] at ee tt ⊢
  have E10 := Lib.hid (show CAt w10 (w.heap.size + 1) ⟨readV FE, HZ, xT, ids⟩ (some ⟨G, 0, none⟩) n from ee)
  have I10 := Lib.hid (ids_stay (ids_stay I8.out HT9.out (fun h => h)) tt (by have := HG.out; omega))
  have HE10 := Lib.hid (HE9.out.turn tt (by omega) (by omega) (fun i h => by rw [h]; exact HNX.out))
  have R10 := Lib.hid (tt.heap (HT9.out.heap R8.out (fun h => h)) (by omega))
  have T10 := Lib.hid (show Turn (fun i => i = e) w w10 from (T8.out.trans HT9.out (fun _ _ h => h.elim)).trans tt (fun i hi h => by omega))
  have S10 := Lib.hid (show w.heap.size + 2 ≤ w10.heap.size from by have := S8.out; have := HT9.out.size; have := tt.size; omega)
  have BH10 := Lib.hid ((BH8.out.turn HT9.out (N' := fun i => i < w.heap.size + 2) (fun i h => h.elim) (fun _ _ h => h)).turn tt (N' := fun i => i < w.heap.size + 2) (fun i h => by omega) (fun _ _ h => h))
  clear hwr ee tt E9 HE9 HT9 TH L9 E8 R8 T8 S8 HE8 I8 BH8 Q1 Q2 HD9
  have TW := Lib.hid (within_hdr e E N [] A6 c6 FH w10 HE10.out (fun i hi => HN.out i (by have := S10.out; omega)) (sln_bts BH10.out) C6.out.2 C6.out.1 (by have := FHL.out; omega))
  go_wp2_with (go_at_call 75; refine stop ?_)
  unfold Stop
  refine TW.out.mono ?_
  rintro r w11 (⟨hz, rfl, he9, ht9⟩ | ⟨hz, rfl, he9, ht9⟩)
  rotate_left 1
  · have HK := Lib.hid hz
    have HX := Lib.hid (show readCE b = hreadE FH by rw [CE.out, if_neg (by rw [HX1.out]; decide), if_neg (by rw [HX2.out]; decide), if_neg (by rw [HX3.out]; decide), if_neg (by have := HX4.out; omega), if_neg (fun k => k HX5.out), if_neg (by rw [← HFE.out, HX10.out]; decide), ← HFH.out])
    have HE9 := Lib.hid he9
    have HT9 := Lib.hid ht9
    clear hz he9 ht9 TW
    dsimp only [pan]
    go_wp2_with fail
    exact ⟨rfl, fc_no HK.out HX.out HE9.out T10.out (HT9.out.mono (fun _ _ h => .inr h))⟩
  have HX12 := Lib.hid hz
  have HE9 := Lib.hid he9
  have HT9 := Lib.hid ht9
  have L9 := Lib.hid (show (⟨readV FE, HZ, xT, ids⟩ : Crt).L from ⟨readV_d FE, HZ_L, HLT.out, LI5.out⟩)
  have E9 := Lib.hid (show CAt w11 (w.heap.size + 1) ⟨readV FE, HZ, xT, ids⟩ (some ⟨G, 0, none⟩) n from ht9.heap E10.out (fun h => h))
  obtain ⟨D9, hD9⟩ : ∃ D, D = (hreadV FH).cells.toArray := ⟨_, rfl⟩
  have sD : D9.size = 67 := by rw [hD9, List.size_toArray, Hdr.len _ (hreadV_L FH)]
  have Q1 := Lib.hid (show (Tryz.prog.info? 33).map (·.size) = some D9.size by rw [sD]; exact hd_info)
  have Q2 := Lib.hid (show D9.all (·.oneCell') = true by rw [hD9]; exact Hdr.one _)
  have TH := Lib.hid (show w11.there (w.heap.size + 1) 38 D9.size by rw [sD]; exact E9.out.there L9.out 38 67 (by omega))
  have HD9 := Lib.hid hD9
  rw [← hD9]
  clear hz he9 ht9 TW hD9 sD
  go_upto_region 10 with (refine wpList_store_mid rfl _ _ _ rfl (w.heap.size + 1) 38 D9 rfl rfl TH.out Q1.out Q2.out ?_)
  obtain ⟨ee, tt⟩ := E9.out.setH L9.out (hreadV FH) (hreadV_L FH)
  rw [show (hreadV FH).cells = D9.toList by rw [HD9.out]] at ee tt
  obtain ⟨w12, hwr⟩ : ∃ v, v = w11.setCells (w.heap.size + 1) 38 D9.toList := ⟨_, rfl⟩
  change Code.wp _ _ _ _ (w11.setCells (w.heap.size + 1) 38 D9.toList)
  rw [← hwr] at ee tt ⊢
  have E12 := Lib.hid (show CAt w12 (w.heap.size + 1) ⟨readV FE, hreadV FH, xT, ids⟩ (some ⟨G, 0, none⟩) n from ee)
  have I12 := Lib.hid (ids_stay (ids_stay I10.out HT9.out (fun h => h)) tt (by have := HG.out; omega))
  have HE12 := Lib.hid (HE9.out.turn tt (by omega) (by omega) (fun i h => by rw [h]; exact HNX.out))
  have R12 := Lib.hid (tt.heap (HT9.out.heap R10.out (fun h => h)) (by omega))
  have T12 := Lib.hid (show Turn (fun i => i = e) w w12 from (T10.out.trans HT9.out (fun _ _ h => h.elim)).trans tt (fun i hi h => by omega))
  have S12 := Lib.hid (show w.heap.size + 2 ≤ w12.heap.size from by have := S10.out; have := HT9.out.size; have := tt.size; omega)
  have BH12 := Lib.hid ((BH10.out.turn HT9.out (N' := fun i => i < w.heap.size + 2) (fun i h => h.elim) (fun _ _ h => h)).turn tt (N' := fun i => i < w.heap.size + 2) (fun i h => by omega) (fun _ _ h => h))
  clear hwr ee tt E9 HE9 HT9 TH L9 E10 R10 T10 S10 HE10 I10 BH10 Q1 Q2 HD9
  have L12 := Lib.hid (show (⟨readV FE, hreadV FH, xT, ids⟩ : Crt).L from ⟨readV_d FE, hreadV_L FH, HLT.out, LI5.out⟩)
  obtain ⟨V, hV⟩ : ∃ V, V = (Crt.cells ⟨readV FE, hreadV FH, xT, ids⟩ (some ⟨G, 0, none⟩) n).toArray := ⟨_, rfl⟩
  have hrow := (E12.out.facts L12.out).all
  rw [← hV] at hrow
  have sV : V.size = 137 := by rw [hV, List.size_toArray, Crt.len _ _ _ L12.out]
  have K1 := Lib.hid (show (Tryz.prog.info? 35).map (·.size) = some V.size by rw [sV]; exact cr_info)
  have K2 := Lib.hid (show ZC.size = V.size by rw [sV, HSZ.out])
  have K3 := Lib.hid (show V.all (·.oneCell') = true by rw [hV]; exact Crt.one _ _ _)
  have HV := Lib.hid hV
  clear hV sV
  go_wp2_with (refine wpList_store_row rfl _ _ _ rfl w.heap.size V rfl rfl 35 ZC R12.out K1.out K2.out K3.out ?_)
  have h3 := setRow_heap w12 w.heap.size ZC V 35 (0, 0) R12.out
  have t5 : Turn (fun i => i = w.heap.size) w12 (w12.setRow w.heap.size V) := (Turn.refl _ _).setRow _ _ (fun _ => rfl)
  have hbd : bodC b = ⟨readV FE, hreadV FH, xT, ids⟩ := by unfold bodC; rw [HFE.out, HFH.out, HT.out, HID.out]
  refine bodyPost_ret (v := .agg V) ?_ rfl (.inl ⟨?_, G, ?_, ?_, ?_, ?_, HE12.out.turn t5 (by omega) (by omega) (fun i h => by rw [h]; exact HNW.out), T12.out.trans t5 (fun i hi h => by omega)⟩)
  · exact results_cell_row Tryz.results40 _ _ w.heap.size _ V (0, 0) _ rfl h3 Tryz.underlying35 rfl K1.out
  · rw [CE.out, if_neg (by rw [HX1.out]; decide), if_neg (by rw [HX2.out]; decide), if_neg (by rw [HX3.out]; decide), if_neg (by have := HX4.out; omega), if_neg (fun k => k HX5.out), if_neg (by rw [← HFE.out, HX10.out]; decide), ← HFH.out, HX12.out]
  · rw [hbd, ← HNN.out, HV.out]
  · rw [hbd]; exact L12.out
  · rw [← HID.out]; exact ids_stay I12.out t5 (by have := HG.out; omega)
  · have := HG.out; omega
end
end Go.Proofs.YthoaaieiiokcmaaGreatDoor
