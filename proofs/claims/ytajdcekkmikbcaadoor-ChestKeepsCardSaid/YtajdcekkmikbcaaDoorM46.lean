/- Merged: The landed chest's Notes. A chest where nothing fails, plain: what Keep, Turn and Open come to on the drum, and in the document's numbers. A chest where nothing fails, plain: Keep, Turn, Open of any drum; what the document finds. The document's Same: lists of texts compared. -/
import Derived.Test.YtajdcekkmikbcaaDoorM45
import Derived.Test.YtajdcekkmikbcaaDoorM42
import Derived.Test.YtajdcekkmikbcaaDoorM44
import Derived.Test.YtajdcekkmikbcaaDoorM40
import Derived.Test.YtajdcekkmikbcaaDoorM26
namespace Go.Proofs.YtajdcekkmikbcaaDoor
section
set_option linter.unusedVariables false
set_option linter.unusedSimpArgs false
open Go.RowKit
set_option maxRecDepth 100000
abbrev nilV : Value := .slice none 0 0
theorem made_sl (n : Nat) : madeCells nilV.cells (n * 1) = (List.replicate n nilV).toArray := by
  unfold madeCells
  apply Array.ext'
  simp only [Array.toList_map, Array.toList_range, Nat.mul_one]
  apply List.ext_getElem
  · simp
  · intro i h1 h2
    simp only [List.getElem_map, List.getElem_range, List.getElem_replicate]
    have e : nilV.cells = #[nilV] := rfl
    rw [e]
    simp [Nat.mod_one]
theorem make_sl (n : Nat) (hn : n ≤ 1000000) (w : World) : (Instr.makeSlice 31 (.int .i64 (n : Int)) (.int .i64 (n : Int))).run Tryd.prog w = .ok (.slice (some ⟨w.heap.size, 0, none⟩) n n) (w.alloc (.cells (List.replicate n nilV).toArray 36)) := by
  obtain ⟨i0, hi, hz0, hz1, hz2⟩ := info_parts info_sl
  have := run_makeSlice (P := Tryd.prog) (w := w) 31 36 i0 nilV Tryd.underlying31 hi hz0 .i64 .i64 (n : Int) (n : Int) (by omega) (by omega) (by rw [hz1]; omega) (by rw [hz2]; omega) (by omega)
  rw [hz1, Int.toNat_natCast, made_sl] at this
  exact this
set_option maxHeartbeats 8000000 in
theorem knotes_any (w : World) (g c n : Nat) (d : Dr) (k : Ck) (D E : Nat → Prop) (h : KAt w g c n d k D E) :
    Calls Tryd.prog 30 #[.pointer (some ⟨c, 0, none⟩)] w fun r w' => ∃ A cc, r = .returned (.slice A k.L.tail.length cc) ∧ LstN w' A k.L.tail ∧ k.L.tail.length ≤ cc ∧ (A = none → cc = 0) ∧ Turn (fun _ => False) w w' := by
  have hb := h.ok.b
  have hm := h.ok.m
  obtain ⟨ld, ok, ⟨s, hd, Ah, ch, NV, o, vs, bx, sb, hL1, hh, hAh, hch, ho, hv, hsc, hEs, hNE⟩, hEc, two, dj, lt⟩ := h
  obtain ⟨T, hT⟩ : ∃ T, T = k.L.tail := ⟨_, rfl⟩
  have htl : T.length ≤ 1000000 := by rw [hT, List.length_tail]; omega
  have hbT : ∀ x ∈ T, x.length ≤ 900000 := fun x hx => hb x (by rw [hT] at hx; exact List.mem_of_mem_tail hx)
  rw [← hT] at ho hv ⊢
  obtain ⟨AN, cN, rfl, hvl, hnc, hcm, hAN, hcells, hlt⟩ := ownsO_sl ho
  obtain ⟨m, hm'⟩ : ∃ m, m = T.length := ⟨_, rfl⟩
  rw [← hm'] at bx hvl hnc htl ⊢
  obtain ⟨g1, hg1⟩ : ∃ g1, g1 = w.heap.size := ⟨_, rfl⟩
  obtain ⟨w1, hw1⟩ : ∃ w1, w1 = w.alloc (.cells (List.replicate m nilV).toArray 36) := ⟨_, rfl⟩
  have t1 : Turn (fun _ => False) w w1 := by rw [hw1]; exact (Turn.refl _ _).alloc _
  have R1 := Lib.hid (show w1.heap[g1]? = some (.cells (List.replicate m nilV).toArray 36 (0, 0)) by rw [hw1, hg1]; exact heap_alloc_new _ _)
  have T1 := Lib.hid t1
  have mk := make_sl m htl w
  have BX := Lib.hid bx
  have HC := Lib.hid hcells
  have HV := Lib.hid hv
  have HM := Lib.hid hm'
  have HBT := Lib.hid hbT
  have HG1 := Lib.hid hg1
  have B1 := Lib.hid (bx.turn t1 (fun h => h))
  obtain ⟨-, -, -, -, -, -, -, -, -, c9⟩ := bx.cells
  obtain ⟨-, -, -, -, -, -, -, -, -, q9⟩ := B1.out.cells
  clear bx sb hL1 hh hAh hch ho hv hNE two dj lt ld ok hb hm hcells hlt hm' hbT hT t1 hcm
  go_enter Tryd.func30, Tryd.ntmps30
  go_upto_region 2 with fail
  change Code.wp _ _ _ _ (w.alloc (.cells (List.replicate m nilV).toArray 36))
  rw [← hw1, ← hg1]
  clear hw1 hg1 mk c9
  go_wp2
  go_loopw [17] (fun iv wr => ∃ (i : Nat) (cur : List Value), i ≤ m ∧ iv = .int .i64 (i : Int) ∧ wr.heap[g1]? = some (.cells (cur ++ List.replicate (m - i) nilV).toArray 36 (0, 0)) ∧ TxtV wr (fun j => j = g1) (T.take i) cur ∧ Turn (fun j => j = g1) w1 wr) (fun iv _ => m - (intOf iv).toNat)
  case atStart => exact ⟨0, [], by omega, rfl, by rw [List.nil_append, Nat.sub_zero]; exact R1.out, ⟨rfl, fun i x h => by simp at h⟩, Turn.refl _ _⟩
  case round =>
    obtain ⟨i, cur, hi, rfl, hr, hv, ht⟩ := hrel
    have hcl : cur.length = i := by rw [hv.1, List.length_take, ← HM.out]; omega
    have HR := Lib.hid hr
    have HVI := Lib.hid hv
    have HT := Lib.hid ht
    by_cases him : i < m
    · have hTi : T[i]? = some T[i] := List.getElem?_eq_getElem (by rw [← HM.out]; exact him)
      obtain ⟨x, hx⟩ : ∃ x, x = T[i]'(by rw [← HM.out]; exact him) := ⟨_, rfl⟩
      rw [← hx] at hTi
      obtain ⟨Ai, ci, hvi, hxc, hAi, hsl⟩ := HV.out.2 i x hTi
      obtain ⟨ad, e, -, -, hcad⟩ := HC.out i _ hvi
      subst e
      have hxl : x.length ≤ 900000 := HBT.out x (List.mem_of_getElem? hTi)
      have hg1w : ∀ (p : Addr) (v : Value), w.cell? p = some v → wr.cell? p = some v := fun p v hp => by
        have hlt := World.block_lt_of_cell? w _ hp
        have h1 := T1.out.cell hp (fun h => h)
        exact ht.cell h1 (fun e => by have := HG1.out; omega)
      have hcad' := hg1w _ _ hcad
      have hslr : SlN wr (fun j => j = g1) Ai (x.map bv) := fun j u hu => by
        obtain ⟨ad', e, -, hc⟩ := hsl j u hu
        have hlt := World.block_lt_of_cell? w _ hc
        rw [add_block] at hlt
        exact ⟨ad', e, fun e => by have := HG1.out; omega, hg1w _ _ hc⟩
      have CL := Lib.hid (clone_at Ai ci x.length _ x wr hslr rfl hAi hxc (by omega))
      obtain ⟨lx, hlx⟩ : ∃ l, l = x.length := ⟨_, rfl⟩
      rw [← hlx] at CL hcad'
      have HLX := Lib.hid hlx
      have HTI := Lib.hid hTi
      clear hx hlx hvi hsl hcad hslr hr hv ht hg1w hTi
      go_wp2_with (go_at_call 40; refine stop ?_)
      unfold Stop
      refine CL.out.mono ?_
      rintro r w2 ⟨v, rfl, o2, t2⟩
      have hr2 := t2.heap HR.out (fun h => h)
      have hc2 : w2.cell? ⟨g1, i, none⟩ = some nilV := by
        rw [cell_of_row _ _ _ _ _ _ hr2, List.getElem?_toArray, List.getElem?_append_right (by omega), hcl, Nat.sub_self, List.getElem?_replicate, if_pos (by omega)]
      have hz2 : w2.frozen? ⟨g1, i, none⟩ = false := frozen_of_row w2 g1 _ _ _ hr2
      obtain ⟨Av, cv, rfl, -, -, hcv, hav⟩ := own_sl o2
      have O2 := Lib.hid o2
      have T2 := Lib.hid t2
      have R2 := Lib.hid hr2
      have AV := Lib.hid (And.intro hcv hav)
      clear CL o2 t2 hr2 hcv hav hcad'
      go_wp2
      go_roundw
      case rel =>
        have hs3 : Turn (fun j => j = g1) w2 (w2.setCell ⟨g1, i, none⟩ (.slice Av lx cv)) := (Turn.refl (fun j => j = g1) w2).setCell ⟨g1, i, none⟩ _ (fun _ => rfl)
        refine ⟨i + 1, cur ++ [.slice Av lx cv], by omega, by go_num, ?_, ?_, (HT.out.trans T2.out (fun _ _ h => h.elim)).trans hs3 (fun _ _ h => h)⟩
        · rw [heap_setCell_same w2 g1 i _ _ _ R2.out]
          congr 2
          apply Array.ext'
          rw [Array.toList_setIfInBounds]
          show (cur ++ List.replicate (m - i) nilV).set i _ = cur ++ [Value.slice Av lx cv] ++ List.replicate (m - (i + 1)) nilV
          rw [List.set_append_right _ _ (by omega), hcl, Nat.sub_self, show m - i = (m - (i + 1)) + 1 by omega, List.replicate_succ, List.set_cons_zero, List.append_assoc]
          rfl
        · have htk : T.take (i + 1) = T.take i ++ [x] := by
            rw [List.take_add_one, HTI.out]; rfl
          rw [htk]
          have elx := HLX.out
          subst elx
          refine (((HVI.out.turn T2.out (fun _ h => h.elim) (fun _ _ h => h)).turn hs3 (fun _ h => h) (fun _ _ h => h))).add AV.out.1 AV.out.2 ?_
          exact (own_sln O2.out (N := fun j => j = g1) (fun j e => by
            have h1 := lt_of_block HR.out
            omega)).turn hs3 (fun _ h => h) (fun _ _ h => h)
      case measure => simp [intOf]; omega
    · obtain rfl : i = m := by omega
      go_wp2
      go_ret
      have hvv := HVI.out
      rw [List.take_of_length_le (by rw [← HM.out]; exact Nat.le_refl _)] at hvv
      refine ⟨some ⟨g1, 0, none⟩, i, rfl, ?_, Nat.le_refl _, (fun e => by cases e), T1.out.trans HT.out (fun j hj e => by have := HG1.out; omega)⟩
      intro j x hj
      obtain ⟨Aj, cj, h1, h2, h3, h4⟩ := hvv.2 j x hj
      refine ⟨⟨g1, 0, none⟩, Aj, cj, rfl, ?_, h2, h3, Bts.of_sl h4.sl⟩
      rw [Addr.add_lit, cell_of_row _ _ _ _ _ _ HR.out, List.getElem?_toArray, Nat.sub_self, List.replicate_zero, List.append_nil, Nat.zero_add]
      exact h1
end
section
set_option linter.unusedVariables false
set_option linter.unusedSimpArgs false
set_option maxRecDepth 100000
/-- The records put of turn t lie in the stretch of m sectors from a on; behind them all is blank. -/
structure IvP (d : Dr) (n a m t : Nat) (put : List (List B8)) : Prop where
  on : OnD d n
  fit : a + m ≤ n
  room : secsS t 0 put ≤ m
  cut : cutD d a (secsS t 0 put) = formsS t 0 put
  zero : ∀ k, secsS t 0 put ≤ k → k < m → d.now (a + k) = zeros 64
  turn : t ≤ mostS
  lens : ∀ i (h : i < put.length), (fldS t i put[i]).length ≤ 65524
  many : put.length ≤ mostS
theorem IvP.of_now {d d' : Dr} {n a m t : Nat} {put : List (List B8)} (h : IvP d n a m t put) (on : OnD d' n) (hn : ∀ k, a ≤ k → k < a + m → d'.now k = d.now k) : IvP d' n a m t put :=
  ⟨on, h.fit, h.room, by rw [cutD_congr _ _ fun k h1 h2 => hn k h1 (by have := h.room; omega)]; exact h.cut, fun k a b => by rw [hn _ (by omega) (by omega)]; exact h.zero k a b, h.turn, h.lens, h.many⟩
theorem IvP.bytes {d : Dr} {n a m t : Nat} {put : List (List B8)} (h : IvP d n a m t put) : cutD d a m = formsS t 0 put ++ zeros (64 * (m - secsS t 0 put)) := by
  rw [cutD_split h.on.ok a m (secsS t 0 put) h.fit h.room, h.cut]
  congr 1
  refine cut_zeros _ _ fun k hk => ?_
  rw [Nat.add_assoc]
  exact h.zero _ (by omega) (by omega)
theorem IvP.scan {d : Dr} {n a m t : Nat} {put : List (List B8)} (h : IvP d n a m t put) : scanN (cutD d a m) t 0 = (put, secsS t 0 put) := by
  rw [h.bytes, scan_forms t h.turn _ put 0 (by have := h.many; omega) (fun i hi => by rw [Nat.zero_add]; exact h.lens i hi), scanN_none (zeros_none _)]
  simp
theorem IvP.read {d : Dr} {n a m t : Nat} {put : List (List B8)} (h : IvP d n a m t put) (hne : 1 ≤ put.length) : ∃ r, readS (cutD d a m) = some r ∧ r.t = t ∧ r.n = 0 := by
  have hs := h.scan
  cases hr : readS (cutD d a m) with
  | none => rw [scanN_none hr] at hs; injection hs with hs _; rw [← hs] at hne; simp at hne
  | some r =>
    by_cases hn : r.t ≠ t ∨ r.n ≠ 0
    · rw [scanN_other hr hn] at hs; injection hs with hs _; rw [← hs] at hne; simp at hne
    · rw [not_or] at hn
      exact ⟨r, rfl, Decidable.not_not.1 hn.1, Decidable.not_not.1 hn.2⟩
/-- A record is put behind all. -/
theorem IvP.put {d : Dr} {n a m t : Nat} {put : List (List B8)} (h : IvP d n a m t put) (b : List B8) (hb : (fldS t put.length b).length ≤ 65524) (hm : put.length < mostS) (hr : secsS t 0 put + (formS t put.length b).length / 64 ≤ m) :
    IvP (putD d (a + secsS t 0 put) (chunks ((formS t put.length b).length / 64) (formS t put.length b))) n a m t (put ++ [b]) ∧ (∀ k, ¬ (a ≤ k ∧ k < a + m) → (putD d (a + secsS t 0 put) (chunks ((formS t put.length b).length / 64) (formS t put.length b))).now k = d.now k) := by
  obtain ⟨z, hz⟩ : ∃ z, z = (formS t put.length b).length / 64 := ⟨_, rfl⟩
  have hlen : (formS t put.length b).length = 64 * z := by rw [hz, formS_div]
  obtain ⟨C, hC⟩ : ∃ C, C = chunks z (formS t put.length b) := ⟨_, rfl⟩
  have hCl : C.length = z := by rw [hC]; exact chunks_len _ _
  have hCs : ∀ s ∈ C, s.length = 64 := by rw [hC]; exact chunks_sec _ _ (by omega)
  have hCf : C.flatten = formS t put.length b := by rw [hC]; exact chunks_flat _ _ hlen
  rw [← hz] at hr ⊢
  rw [← hC]
  have hfit := h.fit
  obtain ⟨q1, q2, q3⟩ := putD_on (n := n) C d (a + secsS t 0 put) h.on (by omega) hCs
  have hsec : secsS t 0 (put ++ [b]) = secsS t 0 put + z := by rw [secsS_append, Nat.zero_add, secsS_one, ← hz]
  refine ⟨⟨q1, hfit, by omega, ?_, fun k hk1 hk2 => ?_, h.turn, fun i hi => ?_, by rw [List.length_append, List.length_singleton]; omega⟩, fun k hk => by rw [q2, if_neg (by omega)]⟩
  · rw [hsec, cutD_split (m := n) q1.ok a (secsS t 0 put + z) (secsS t 0 put) (by omega) (by omega), formsS_append]
    congr 1
    · rw [cutD_congr (d := d) _ _ (fun k hk1 hk2 => by rw [q2 k, if_neg (by omega)]), h.cut]
    · rw [show secsS t 0 put + z - secsS t 0 put = C.length by omega, putD_cut (n := n) C d _ h.on (by omega) hCs, hCf, Nat.zero_add]
      simp [formsS]
  · rw [q2, if_neg (by omega)]
    exact h.zero k (by omega) hk2
  · by_cases hi2 : i < put.length
    · rw [List.getElem_append_left hi2]; exact h.lens i hi2
    · rw [List.length_append, List.length_singleton] at hi
      obtain rfl : i = put.length := by omega
      simpa using hb
theorem IvP.blank {d : Dr} {n a m t : Nat} (on : OnD d n) (fit : a + m ≤ n) (ht : t ≤ mostS) (hz : ∀ k, k < m → d.now (a + k) = zeros 64) : IvP d n a m t [] :=
  ⟨on, fit, Nat.zero_le _, rfl, fun k _ hk => hz k hk, ht, fun i h => by simp at h, by simp⟩
theorem IvP.opened {d : Dr} {n a m t u : Nat} {w : List (List B8)} (c : List B8) (on : OnD d n) (fit : a + m ≤ n) (ht : t ≤ mostS) (hm : m ≤ 8192) (hs : scanN c t 0 = (w, u)) (hc : c.length = 64 * m) (hcut : cutD d a u = c.take (64 * u)) (hz : ∀ k, u ≤ k → k < m → d.now (a + k) = zeros 64) : IvP d n a m t w := by
  obtain ⟨h1, h2, h3, -⟩ := scan_back t c.length c 0 (Nat.le_refl _)
  have h4 := scanN_le t c.length c 0 (Nat.le_refl _)
  rw [hs] at h1 h2 h3 h4
  simp only at h1 h2 h3 h4
  have h5 := secsS_ge t w 0
  exact ⟨on, fit, by omega, by rw [h2, hcut, h1], fun k hk hk2 => hz k (by omega) hk2, ht, fun i hi => by have := (h3 i hi).1; rwa [Nat.zero_add] at this, by unfold mostS; omega⟩
theorem IvP.sync {d : Dr} {n a m t : Nat} {put : List (List B8)} (h : IvP d n a m t put) : d.syncE = 0 ∧ IvP d.sync n a m t put ∧ d.sync.W = [] ∧ (∀ k, d.sync.now k = d.now k) := by
  obtain ⟨h1, h2, h3⟩ := h.on.sync
  have hn : ∀ k, d.sync.now k = d.now k := Dr.now_sync h.on.ok h1
  exact ⟨h1, h.of_now h2 (fun k _ _ => hn k), h3, hn⟩
/-- What a side tells hangs on its own sectors. -/
theorem pkT_congr {d d' : Dr} {n i : Nat} (h1 : d.off = false) (h2 : d'.off = false) (h : ∀ k, i * (n / 2) ≤ k → k < i * (n / 2) + n / 2 → d'.now k = d.now k) : pkT d' n i = pkT d n i := by
  unfold pkT peekV
  rw [h1, h2]
  simp only [Int.toNat_natCast]
  rw [cutD_congr _ _ h]
theorem pkT_of {d : Dr} {n i : Nat} (on : d.off = false) (hi : i ≤ 1) {r : Rc} (h : readS (cutD d (i * (n / 2)) (n / 2)) = some r) : pkT d n i = if r.n = 0 then r.t else 0 := by
  have hin : inS n ((i * (n / 2) : Nat) : Int) ((n / 2 : Nat) : Int) := by
    unfold inS
    rcases Nat.lt_or_ge i 1 with h1 | h1
    · obtain rfl : i = 0 := by omega
      omega
    · obtain rfl : i = 1 := by omega
      omega
  unfold pkT peekV
  rw [if_neg (show ¬ (¬ inS n ((i * (n / 2) : Nat) : Int) ((n / 2 : Nat) : Int) ∨ d.off = true) from fun h => h.elim (fun h => h hin) (fun h => by rw [on] at h; cases h))]
  simp only [Int.toNat_natCast]
  rw [h]
  simp only
  split
  · rename_i h2
    split at h2
    · cases h2
    · rw [if_neg (by assumption)]
  · rename_i r' h2
    split at h2
    · injection h2 with h2
      rw [if_pos (by assumption), h2]
    · cases h2
theorem pkT_none {d : Dr} {n i : Nat} (h : readS (cutD d (i * (n / 2)) (n / 2)) = none) : pkT d n i = 0 := by
  unfold pkT peekV
  simp only [Int.toNat_natCast]
  rw [h]
  split
  · rfl
  · rename_i h2; split at h2 <;> cases h2
/-- A chest where nothing fails. -/
structure CG (d : Dr) (n : Nat) (k : Ck) : Prop where
  iv : IvP d n (k.a * (n / 2)) (n / 2) k.t k.L
  p : k.p = k.a * (n / 2) + secsS k.t 0 k.L
  a : k.a ≤ 1
  t : 1 ≤ k.t
  ne : 1 ≤ k.L.length
  oth : (k.a = 0 ∧ pkT d n 1 ≤ k.t) ∨ (k.a = 1 ∧ pkT d n 0 < k.t)
theorem CG.live {d : Dr} {n : Nat} {k : Ck} (h : CG d n k) : pkT d n k.a = k.t := by
  obtain ⟨r, h1, h2, h3⟩ := h.iv.read h.ne
  rw [pkT_of h.iv.on.off h.a h1, if_pos h3, h2]
theorem CG.fnd {d : Dr} {n : Nat} {k : Ck} (h : CG d n k) : fnd d n = (k.a, k.t) := by
  have hl := h.live
  have ht := h.t
  rw [show Go.Proofs.YtajdcekkmikbcaaDoor.fnd d n = fndK d n 1 (fndK d n 0 (0, 0)) from rfl]
  rcases h.oth with ⟨ha, ho⟩ | ⟨ha, ho⟩
  · rw [ha] at hl ⊢
    rw [show fndK d n 0 (0, 0) = (0, pkT d n 0) from if_pos (by show 0 < pkT d n 0; omega), hl]
    exact if_neg (by show ¬ k.t < pkT d n 1; omega)
  · rw [ha] at hl ⊢
    by_cases h0 : 0 < pkT d n 0
    · rw [show fndK d n 0 (0, 0) = (0, pkT d n 0) from if_pos h0]
      rw [show fndK d n 1 (0, pkT d n 0) = (1, pkT d n 1) from if_pos (by show pkT d n 0 < pkT d n 1; omega), hl]
    · rw [show fndK d n 0 (0, 0) = (0, 0) from if_neg h0]
      rw [show fndK d n 1 (0, 0) = (1, pkT d n 1) from if_pos (by show 0 < pkT d n 1; omega), hl]
theorem sizeC_ok {t n : Nat} {b : List B8} (h : formE13 (t : Int) (n : Int) b = 0) : sizeC t n b = (((formS t n b).length / 64 : Nat) : Int) ∧ formV13 (t : Int) (n : Int) b = formS t n b := by
  have h1 := (formV_ok h).1
  unfold sizeC
  rw [if_pos h, h1]
  exact ⟨rfl, rfl⟩
theorem leftsC_secs {t : Nat} : ∀ (L : List (List B8)) (i : Nat) (a : Int), (∀ j (h : j < L.length), formE13 (t : Int) ((i + j : Nat) : Int) L[j] = 0) → leftsC t i a L = a - (secsS t i L : Int)
  | [], i, a, h => by simp [leftsC, secsS]
  | b :: bs, i, a, h => by
    have h0 := h 0 (by simp)
    simp only [Nat.add_zero, List.getElem_cons_zero] at h0
    show leftsC t (i + 1) (a - sizeC t i b) bs = _
    rw [leftsC_secs bs (i + 1) _ (fun j hj => by
      have h1 := h (j + 1) (by simpa using hj)
      rw [show i + 1 + j = i + (j + 1) by omega]
      simpa using h1), (sizeC_ok h0).1, secsS]
    omega
theorem IvP.left {d : Dr} {n a m t : Nat} {put : List (List B8)} (h : IvP d n a m t put) : leftC t (m : Int) put = ((m - secsS t 0 put : Nat) : Int) := by
  unfold leftC
  have hr := h.room
  have hm := h.many
  rw [leftsC_secs put 0 _ (fun j hj => formE_ok h.turn (by omega) (by rw [Nat.zero_add]; exact h.lens j hj))]
  omega
theorem CG.left {d : Dr} {n : Nat} {k : Ck} (h : CG d n k) : leftC k.t ((n / 2 : Nat) : Int) k.L = ((k.fin (n / 2) - k.p : Nat) : Int) := by
  rw [h.iv.left, h.p]
  unfold Ck.fin
  have := h.iv.room
  omega
end
section
set_option linter.unusedVariables false
set_option linter.unusedSimpArgs false
set_option maxRecDepth 100000
theorem formE_vals {t n : Nat} (ht : t ≤ mostS) (hn : n ≤ mostS) (b : List B8) : formE13 (t : Int) (n : Int) b = 0 ∨ formE13 (t : Int) (n : Int) b = 4 := by
  unfold formE13
  rw [if_neg (by omega)]
  split
  · exact .inr rfl
  · exact .inl rfl
theorem secs_of_form {t n : Nat} {b : List B8} (h : formE13 (t : Int) (n : Int) b = 0) : secsOf (formV13 (t : Int) (n : Int) b) = (formS t n b).length / 64 := by
  unfold secsOf; rw [(formV_ok h).1]
/-- A Keep where nothing fails. -/
theorem CG.keep {d : Dr} {n : Nat} {k : Ck} (h : CG d n k) (b : List B8) (hl : k.L.length < mostS) :
    (k.scr (n / 2)).putE d b = keepE k.t ((n / 2 : Nat) : Int) k.L b ∧ ((k.scr (n / 2)).pre b = 0 → (k.scr (n / 2)).putE d b = 0) ∧ ((k.scr (n / 2)).pre b ≠ 0 → (k.scr (n / 2)).putE d b = (k.scr (n / 2)).pre b) ∧
    ((k.scr (n / 2)).putE d b = 0 → CG ((k.scr (n / 2)).putD d b) n ⟨k.a, k.t, k.L ++ [b], k.p + secsOf (formV13 k.t k.L.length b)⟩ ∧ ((k.scr (n / 2)).putD d b).W.length ≤ d.W.length + n / 2) := by
  have iv := h.iv
  have hfit := iv.fit
  have hroom := iv.room
  have hlf := h.left
  have hfin : (k.scr (n / 2)).fin = k.a * (n / 2) + n / 2 := rfl
  have hpos : (k.scr (n / 2)).pos = k.p := rfl
  have hp := h.p
  have hpre0 : (k.scr (n / 2)).pre b = if formE13 (k.t : Int) (k.L.length : Int) b ≠ 0 then formE13 (k.t : Int) (k.L.length : Int) b else if k.a * (n / 2) + n / 2 < k.p + secsOf (formV13 (k.t : Int) (k.L.length : Int) b) then 18 else 0 := by
    unfold Scr.pre
    rw [if_neg (by simp [Ck.scr])]
    rfl
  have hE0 : (k.scr (n / 2)).pre b ≠ 0 → (k.scr (n / 2)).putE d b = (k.scr (n / 2)).pre b := fun h0 => by unfold Scr.putE; rw [if_pos h0]
  have hgood : (k.scr (n / 2)).pre b = 0 → (k.scr (n / 2)).putE d b = 0 ∧ CG ((k.scr (n / 2)).putD d b) n ⟨k.a, k.t, k.L ++ [b], k.p + secsOf (formV13 k.t k.L.length b)⟩ ∧ ((k.scr (n / 2)).putD d b).W.length ≤ d.W.length + n / 2 := fun h0 => by
    obtain ⟨p1, p2, p3, -⟩ := put_on iv.on (by rw [hfin]; exact hfit) h0
    have he : formE13 (k.t : Int) (k.L.length : Int) b = 0 := by
      by_cases hq : formE13 (k.t : Int) (k.L.length : Int) b = 0
      · exact hq
      · rw [hpre0, if_pos hq] at h0; exact absurd h0 hq
    rw [hpre0, if_neg (by rw [he]; simp)] at h0
    have hr : ¬ k.a * (n / 2) + n / 2 < k.p + secsOf (formV13 (k.t : Int) (k.L.length : Int) b) := fun hq => by rw [if_pos hq] at h0; cases h0
    rw [secs_of_form he] at hr ⊢
    obtain ⟨-, -, -, hfl⟩ := formV_ok he
    have hput := iv.put b hfl hl (by omega)
    have hD : (k.scr (n / 2)).putD d b = Go.Proofs.YtajdcekkmikbcaaDoor.putD d (k.a * (n / 2) + secsS k.t 0 k.L) (chunks ((formS k.t k.L.length b).length / 64) (formS k.t k.L.length b)) := by
      rw [p2, hpos, hp]; rfl
    refine ⟨p1, ?_, ?_⟩
    · rw [hD]
      obtain ⟨i1, i2⟩ := hput
      refine ⟨i1, ?_, h.a, h.t, by show 1 ≤ (k.L ++ [b]).length; simp, ?_⟩
      · show k.p + (formS k.t k.L.length b).length / 64 = k.a * (n / 2) + secsS k.t 0 (k.L ++ [b])
        rw [secsS_append, secsS_one, hp, Nat.zero_add]; omega
      · rcases h.oth with ⟨ha, ho⟩ | ⟨ha, ho⟩
        · refine .inl ⟨ha, ?_⟩
          rw [pkT_congr (d := d) iv.on.off i1.on.off (fun j h1 h2 => i2 j (by rw [ha]; omega))]
          exact ho
        · refine .inr ⟨ha, ?_⟩
          rw [pkT_congr (d := d) iv.on.off i1.on.off (fun j h1 h2 => i2 j (by rw [ha]; omega))]
          exact ho
    · rw [hD, putD_W (n := n) _ d _ iv.on (by rw [chunks_len]; omega) (chunks_sec _ _ (by rw [formS_div]; omega)), chunks_len]
      omega
  refine ⟨?_, fun h0 => (hgood h0).1, hE0, fun h0 => ?_⟩
  · unfold keepE
    rw [hlf]
    have hfd : k.fin (n / 2) = k.a * (n / 2) + n / 2 := rfl
    rcases formE_vals iv.turn (Nat.le_of_lt hl) b with he | he
    · rw [(sizeC_ok he).1, if_neg (by omega)]
      by_cases hq : k.a * (n / 2) + n / 2 < k.p + secsOf (formV13 (k.t : Int) (k.L.length : Int) b)
      · have hpre : (k.scr (n / 2)).pre b = 18 := by rw [hpre0, if_neg (by rw [he]; simp), if_pos hq]
        rw [hE0 (by rw [hpre]; decide), hpre]
        rw [secs_of_form he] at hq
        rw [if_pos (by omega)]
      · have hpre : (k.scr (n / 2)).pre b = 0 := by rw [hpre0, if_neg (by rw [he]; simp), if_neg hq]
        rw [(hgood hpre).1]
        rw [secs_of_form he] at hq
        rw [if_neg (by omega)]
    · have hpre : (k.scr (n / 2)).pre b = 4 := by rw [hpre0, if_pos (by rw [he]; decide), he]
      rw [hE0 (by rw [hpre]; decide), hpre]
      rw [if_pos (by unfold sizeC; rw [if_neg (by rw [he]; decide)]; decide)]
  · have hp0 : (k.scr (n / 2)).pre b = 0 := by
      by_cases hq : (k.scr (n / 2)).pre b = 0
      · exact hq
      · rw [hE0 hq] at h0; exact absurd h0 hq
    exact (hgood hp0).2
/-- A head laid where nothing fails. -/
theorem layR_on {d : Dr} {n a t : Nat} {b : List B8} (on : OnD d n) (ha : a ≤ 1) (hE : formE13 (t : Int) ((0 : Nat) : Int) b = 0) (hr : secsOf (formV13 (t : Int) ((0 : Nat) : Int) b) ≤ n / 2) :
    (layR d (a * (n / 2)) (n / 2) t b).2 = 0 ∧ IvP (layR d (a * (n / 2)) (n / 2) t b).1 n (a * (n / 2)) (n / 2) t [b] ∧ (layR d (a * (n / 2)) (n / 2) t b).1.W = [] ∧ (∀ k, ¬ (a * (n / 2) ≤ k ∧ k < a * (n / 2) + n / 2) → (layR d (a * (n / 2)) (n / 2) t b).1.now k = d.now k) := by
  have hfit : a * (n / 2) + n / 2 ≤ n := by
    rcases Nat.lt_or_ge a 1 with h1 | h1
    · obtain rfl : a = 0 := by omega
      omega
    · obtain rfl : a = 1 := by omega
      omega
  obtain ⟨p, hp⟩ : ∃ p, p = a * (n / 2) := ⟨_, rfl⟩
  obtain ⟨m, hm⟩ : ∃ m, m = n / 2 := ⟨_, rfl⟩
  rw [← hp, ← hm] at hfit ⊢
  rw [← hm] at hr
  obtain ⟨w1, w2, w3, w4, w5, w6⟩ := wipeE_on on p m hfit
  obtain ⟨-, ht, -, hfl⟩ := formV_ok hE
  have hpre : (Scr.mk p (p + m) t 0 false).pre b = 0 := by
    unfold Scr.pre
    rw [if_neg (by simp), if_neg (show ¬ ((Scr.mk p (p + m) t 0 false).formE b ≠ 0) from fun h => h hE), if_neg (show ¬ (Scr.mk p (p + m) t 0 false).fin < (Scr.mk p (p + m) t 0 false).pos + secsOf ((Scr.mk p (p + m) t 0 false).form b) from (show ¬ p + m < p + secsOf (formV13 (t : Int) ((0 : Nat) : Int) b) by omega))]
  obtain ⟨p1, p2, p3, -⟩ := put_on (s := Scr.mk p (p + m) t 0 false) w1 (show p + m ≤ n from hfit) hpre
  have iv0 : IvP (wipeE d p m) n p m t [] := .blank w1 hfit ht w2
  rw [secs_of_form hE] at hr
  obtain ⟨i1, i2⟩ := iv0.put b hfl (by show 0 < mostS; unfold mostS; omega) (by show 0 + (formS t 0 b).length / 64 ≤ m; omega)
  have hD : (Scr.mk p (p + m) t 0 false).putD (wipeE d p m) b = Go.Proofs.YtajdcekkmikbcaaDoor.putD (wipeE d p m) (p + secsS t 0 []) (chunks ((formS t ([] : List (List B8)).length b).length / 64) (formS t ([] : List (List B8)).length b)) := by rw [p2]; rfl
  rw [← hD] at i1 i2
  obtain ⟨s1, s2, s3, s4⟩ := i1.sync
  have hL : layR d p m t b = (((Scr.mk p (p + m) t 0 false).putD (wipeE d p m) b).sync, 0) := by
    unfold layR
    rw [wipeR_on on p m hfit, if_neg (by simp)]
    simp only
    rw [p1, if_neg (by simp), s1]
  rw [hL]
  refine ⟨rfl, s2, s3, fun k hk => ?_⟩
  show ((Scr.mk p (p + m) t 0 false).putD (wipeE d p m) b).sync.now k = _
  rw [s4, i2 k hk, w3 k hk]
/-- A Turn where nothing fails. -/
theorem CG.turned {d : Dr} {n : Nat} {k : Ck} (h : CG d n k) (b : List B8) (h0 : turnP k (n / 2) b = 0) :
    (turnR d k (n / 2) b).2 = 0 ∧ CG (turnR d k (n / 2) b).1 n ⟨1 - k.a, k.t + 1, [b], (1 - k.a) * (n / 2) + secsOf (formV13 ((k.t + 1 : Nat) : Int) 0 b)⟩ ∧ (turnR d k (n / 2) b).1.W = [] := by
  unfold turnP at h0
  have hE : formE13 ((k.t + 1 : Nat) : Int) ((0 : Nat) : Int) b = 0 := by
    by_cases hq : formE13 ((k.t + 1 : Nat) : Int) 0 b = 0
    · exact hq
    · rw [if_pos hq] at h0; exact absurd h0 hq
  rw [if_neg (show ¬ (formE13 ((k.t + 1 : Nat) : Int) 0 b ≠ 0) from fun h => h hE)] at h0
  have hr : secsOf (formV13 ((k.t + 1 : Nat) : Int) ((0 : Nat) : Int) b) ≤ n / 2 := by
    by_cases hq : n / 2 < secsOf (formV13 ((k.t + 1 : Nat) : Int) 0 b)
    · rw [if_pos hq] at h0; cases h0
    · have : ¬ n / 2 < secsOf (formV13 ((k.t + 1 : Nat) : Int) ((0 : Nat) : Int) b) := hq
      omega
  have ha := h.a
  obtain ⟨l1, l2, l3, l4⟩ := layR_on (t := k.t + 1) h.iv.on (show 1 - k.a ≤ 1 by omega) hE hr
  unfold turnR
  refine ⟨l1, ⟨l2, ?_, by show 1 - k.a ≤ 1; omega, by show 1 ≤ k.t + 1; omega, Nat.le_refl _, ?_⟩, l3⟩
  · show (1 - k.a) * (n / 2) + secsOf (formV13 ((k.t + 1 : Nat) : Int) ((0 : Nat) : Int) b) = (1 - k.a) * (n / 2) + secsS (k.t + 1) 0 [b]
    rw [secs_of_form hE, secsS_one]
  · have hlive := h.live
    have hpk : pkT (layR d ((1 - k.a) * (n / 2)) (n / 2) (k.t + 1) b).1 n k.a = pkT d n k.a := pkT_congr h.iv.on.off l2.on.off (fun j h1 h2 => l4 j (by
      rcases h.oth with ⟨e, -⟩ | ⟨e, -⟩
      · rw [e] at h1 h2 ⊢; omega
      · rw [e] at h1 h2 ⊢; omega))
    rcases h.oth with ⟨e, -⟩ | ⟨e, -⟩
    · refine .inr ⟨by show 1 - k.a = 1; omega, ?_⟩
      rw [e] at hpk hlive ⊢
      show pkT _ n 0 < k.t + 1
      rw [hpk, hlive]; omega
    · refine .inl ⟨by show 1 - k.a = 0; omega, ?_⟩
      rw [e] at hpk hlive ⊢
      show pkT _ n 1 ≤ k.t + 1
      rw [hpk, hlive]; omega
theorem fld_nil : (fldS 1 0 ([] : List B8)).length = 4 := by simp [fldS, numB_len, klen_zero, klen_one]
/-- The form of an empty head. -/
theorem form_nil : formE13 ((1 : Nat) : Int) ((0 : Nat) : Int) [] = 0 ∧ secsOf (formV13 ((1 : Nat) : Int) ((0 : Nat) : Int) []) = 1 := by
  have h0 : formE13 ((1 : Nat) : Int) ((0 : Nat) : Int) [] = 0 := by
    refine formE_ok (by unfold mostS; omega) (by unfold mostS; omega) ?_
    have := fld_nil
    omega
  refine ⟨h0, ?_⟩
  rw [secs_of_form h0]
  have h1 := laidS_len (fldS 1 0 ([] : List B8))
  have h2 := fld_nil
  have h3 : secPad (12 + 4) = 48 := by decide
  show (laidS (fldS 1 0 ([] : List B8))).length / 64 = 1
  rw [h1, h2, h3]
/-- A drum on which no chest is. -/
theorem fresh_on {d : Dr} {n : Nat} (on : OnD d n) (hn : 2 ≤ n) (h : (fnd d n).2 < 1) : (begR d n).2 = 0 ∧ CG (begR d n).1 n (begK d n) ∧ (begR d n).1.W = [] ∧ (begK d n).t = 1 ∧ (begK d n).L = [[]] := by
  obtain ⟨f1, f2⟩ := form_nil
  obtain ⟨l1, l2, l3, l4⟩ := layR_on (a := 0) (t := 1) on (Nat.zero_le _) f1 (by rw [f2]; omega)
  have hk : begK d n = ⟨0, 1, [[]], 0 * (n / 2) + secsOf (formV13 ((1 : Nat) : Int) 0 [])⟩ := by unfold begK; rw [if_pos h]
  have hR : begR d n = layR d (0 * (n / 2)) (n / 2) 1 [] := by unfold begR; rw [if_pos h]
  rw [hk, hR]
  refine ⟨l1, ⟨l2, ?_, Nat.zero_le _, Nat.le_refl _, Nat.le_refl _, .inl ⟨rfl, ?_⟩⟩, l3, rfl, rfl⟩
  · show 0 * (n / 2) + secsOf (formV13 ((1 : Nat) : Int) ((0 : Nat) : Int) []) = 0 * (n / 2) + secsS 1 0 [[]]
    rw [secs_of_form f1, secsS_one]
  · have hp : pkT (layR d (0 * (n / 2)) (n / 2) 1 []).1 n 1 = pkT d n 1 := pkT_congr on.off l2.on.off (fun j h1 h2 => l4 j (by omega))
    show pkT _ n 1 ≤ 1
    rw [hp]
    rw [show fnd d n = fndK d n 1 (fndK d n 0 (0, 0)) from rfl] at h
    by_cases h0 : 0 < pkT d n 0
    · rw [show fndK d n 0 (0, 0) = (0, pkT d n 0) from if_pos h0] at h
      by_cases h1 : pkT d n 0 < pkT d n 1
      · rw [show fndK d n 1 (0, pkT d n 0) = (1, pkT d n 1) from if_pos h1] at h
        have h : pkT d n 1 < 1 := h
        omega
      · rw [show fndK d n 1 (0, pkT d n 0) = (0, pkT d n 0) from if_neg h1] at h
        have h : pkT d n 0 < 1 := h
        omega
    · rw [show fndK d n 0 (0, 0) = (0, 0) from if_neg h0] at h
      by_cases h1 : 0 < pkT d n 1
      · rw [show fndK d n 1 (0, 0) = (1, pkT d n 1) from if_pos h1] at h
        have h : pkT d n 1 < 1 := h
        omega
      · omega
/-- A drum on which a chest is. -/
theorem opened_on {d : Dr} {n : Nat} (on : OnD d n) (hn : n ≤ 8192) (h : 1 ≤ (fnd d n).2) : (begR d n).2 = 0 ∧ CG (begR d n).1 n (begK d n) ∧ (begR d n).1.W.length ≤ d.W.length + n / 2 ∧ (begK d n).t = (fnd d n).2 ∧ (begK d n).L = (scanN (cutD d ((fnd d n).1 * (n / 2)) (n / 2)) (fnd d n).2 0).1 := by
  have hsp := fnd_spec d n
  have hmax : ((fnd d n).1 = 0 ∧ pkT d n 1 ≤ (fnd d n).2) ∨ ((fnd d n).1 = 1 ∧ pkT d n 0 < (fnd d n).2) := by
    rw [show fnd d n = fndK d n 1 (fndK d n 0 (0, 0)) from rfl] at *
    by_cases h0 : 0 < pkT d n 0
    · rw [show fndK d n 0 (0, 0) = (0, pkT d n 0) from if_pos h0] at *
      by_cases h1 : pkT d n 0 < pkT d n 1
      · rw [show fndK d n 1 (0, pkT d n 0) = (1, pkT d n 1) from if_pos h1]
        exact .inr ⟨rfl, h1⟩
      · rw [show fndK d n 1 (0, pkT d n 0) = (0, pkT d n 0) from if_neg h1]
        exact .inl ⟨rfl, by show pkT d n 1 ≤ pkT d n 0; omega⟩
    · rw [show fndK d n 0 (0, 0) = (0, 0) from if_neg h0] at *
      by_cases h1 : 0 < pkT d n 1
      · rw [show fndK d n 1 (0, 0) = (1, pkT d n 1) from if_pos h1]
        exact .inr ⟨rfl, by show pkT d n 0 < pkT d n 1; omega⟩
      · rw [show fndK d n 1 (0, 0) = (0, 0) from if_neg h1] at h
        have h : 1 ≤ 0 := h
        omega
  obtain ⟨⟨a, t⟩, hat⟩ : ∃ x, x = fnd d n := ⟨_, rfl⟩
  rw [← hat] at h hsp hmax ⊢
  have h1 : 1 ≤ t := h
  have ha : a ≤ 1 := by rcases hmax with ⟨e, -⟩ | ⟨e, -⟩ <;> (have e : a = _ := e; omega)
  obtain ⟨s1, ⟨y, ys, s2⟩, s3, s4, s5⟩ := fnd_scan on.ok hn hat.symm h1
  have hfit : a * (n / 2) + n / 2 ≤ n := by
    rcases Nat.lt_or_ge a 1 with h1 | h1
    · obtain rfl : a = 0 := by omega
      omega
    · obtain rfl : a = 1 := by omega
      omega
  have hK : begK d n = ⟨a, t, (scanN (cutD d (a * (n / 2)) (n / 2)) t 0).1, a * (n / 2) + (scanN (cutD d (a * (n / 2)) (n / 2)) t 0).2⟩ := by
    unfold begK; rw [← hat, if_neg (by show ¬ t < 1; omega)]
  have hR : begR d n = wipeR d (a * (n / 2) + (scanN (cutD d (a * (n / 2)) (n / 2)) t 0).2) (n / 2 - (scanN (cutD d (a * (n / 2)) (n / 2)) t 0).2) := by
    unfold begR; rw [← hat, if_neg (by show ¬ t < 1; omega)]
  obtain ⟨S, hS⟩ : ∃ S, S = scanN (cutD d (a * (n / 2)) (n / 2)) t 0 := ⟨_, rfl⟩
  have hcl := cutD_len on.ok (a * (n / 2)) (n / 2) hfit
  obtain ⟨-, b2, -, -⟩ := scan_back t _ (cutD d (a * (n / 2)) (n / 2)) 0 (Nat.le_refl _)
  rw [← hS] at s2 s4 s5 hK hR b2
  rw [wipeR_on on _ _ (by omega)] at hR
  obtain ⟨w1, w2, w3, w4, w5, w6⟩ := wipeE_on on (a * (n / 2) + S.2) (n / 2 - S.2) (by omega)
  have iv : IvP (wipeE d (a * (n / 2) + S.2) (n / 2 - S.2)) n (a * (n / 2)) (n / 2) t S.1 := IvP.opened (cutD d (a * (n / 2)) (n / 2)) w1 hfit s1 (by omega) hS.symm hcl (by
      rw [cutD_take on.ok _ _ _ hfit s5]
      exact cutD_congr _ _ fun j h1 h2 => w3 j (by omega)) (fun j h1 h2 => by
      have := w2 (j - S.2) (by omega)
      rwa [show a * (n / 2) + S.2 + (j - S.2) = a * (n / 2) + j by omega] at this)
  rw [hK, hR]
  refine ⟨rfl, ⟨iv, ?_, ha, h1, by show 1 ≤ S.1.length; rw [s2]; simp, ?_⟩, by show (wipeE d _ _).W.length ≤ _; omega, rfl, by rw [hS]⟩
  · show a * (n / 2) + S.2 = a * (n / 2) + secsS t 0 S.1
    rw [b2]
  · rcases hmax with ⟨e, ho⟩ | ⟨e, ho⟩
    · have e : a = 0 := e
      have ho : pkT d n 1 ≤ t := ho
      refine .inl ⟨e, ?_⟩
      show pkT (wipeE d _ _) n 1 ≤ t
      rw [pkT_congr (d := d) on.off w1.off (fun j h1 h2 => w3 j (by rw [e]; omega))]
      exact ho
    · have e : a = 1 := e
      have ho : pkT d n 0 < t := ho
      refine .inr ⟨e, ?_⟩
      show pkT (wipeE d _ _) n 0 < t
      rw [pkT_congr (d := d) on.off w1.off (fun j h1 h2 => w3 j (by rw [e]; omega))]
      exact ho
/-- What the document finds on the bytes of a drum. -/
theorem find_on {d : Dr} {n : Nat} (on : OnD d n) : (findS (cutD d 0 n)).1 = (fnd d n).2 ∧ ((fnd d n).2 = 0 → (findS (cutD d 0 n)).2 = []) ∧ (1 ≤ (fnd d n).2 → (findS (cutD d 0 n)).2 = (scanN (cutD d ((fnd d n).1 * (n / 2)) (n / 2)) (fnd d n).2 0).1) := by
  have hl : (cutD d 0 n).length = 64 * n := cutD_len on.ok 0 n (by omega)
  have hside : ∀ i, i ≤ 1 → sideS (cutD d 0 n) (n / 2) i = cutD d (i * (n / 2)) (n / 2) := fun i hi => by
    have hb : i * (n / 2) + n / 2 ≤ n := by
      rcases Nat.lt_or_ge i 1 with h1 | h1
      · obtain rfl : i = 0 := by omega
        omega
      · obtain rfl : i = 1 := by omega
        omega
    unfold sideS
    rw [cutD_split on.ok 0 n (i * (n / 2)) (by omega) (by omega)]
    have h1 := cutD_len on.ok 0 (i * (n / 2)) (by omega)
    rw [show 64 * (n / 2) * i = 64 * (i * (n / 2)) by rw [Nat.mul_assoc, Nat.mul_comm (n / 2) i], ← h1, List.drop_left, Nat.zero_add]
    exact cutD_take on.ok _ _ _ (by omega) (by omega)
  have step : ∀ (i : Nat) (x : Nat × List (List B8)) (y : Nat × Nat), i ≤ 1 → (x.1 = y.2 ∧ (y.2 = 0 → x.2 = []) ∧ (1 ≤ y.2 → x.2 = (scanN (cutD d (y.1 * (n / 2)) (n / 2)) y.2 0).1)) →
      ((findK (cutD d 0 n) (n / 2) i x).1 = (fndK d n i y).2 ∧ ((fndK d n i y).2 = 0 → (findK (cutD d 0 n) (n / 2) i x).2 = []) ∧ (1 ≤ (fndK d n i y).2 → (findK (cutD d 0 n) (n / 2) i x).2 = (scanN (cutD d ((fndK d n i y).1 * (n / 2)) (n / 2)) (fndK d n i y).2 0).1)) := fun i x y hi hxy => by
    unfold findK
    rw [hside i hi]
    cases hr : readS (cutD d (i * (n / 2)) (n / 2)) with
    | none =>
      have hp := pkT_none hr
      rw [show fndK d n i y = y from if_neg (by rw [hp]; omega)]
      exact hxy
    | some r =>
      have hp := pkT_of on.off hi hr
      simp only
      by_cases h0 : r.n = 0
      · rw [if_pos h0] at hp
        by_cases hlt : x.1 < r.t
        · rw [if_pos ⟨h0, hlt⟩, show fndK d n i y = (i, pkT d n i) from if_pos (by rw [hp, ← hxy.1]; exact hlt), hp]
          refine ⟨rfl, fun e => by have e : r.t = 0 := e; omega, fun _ => ?_⟩
          show (scanI (cutD d (i * (n / 2)) (n / 2)) (r.t : Int) 0).1 = _
          unfold scanI
          rw [if_neg (by omega)]
          rfl
        · rw [if_neg (fun h => hlt h.2), show fndK d n i y = y from if_neg (by rw [hp, ← hxy.1]; exact hlt)]
          exact hxy
      · rw [if_neg h0] at hp
        rw [if_neg (fun h => h0 h.1), show fndK d n i y = y from if_neg (by rw [hp]; omega)]
        exact hxy
  unfold findS
  rw [hl, show 64 * n / 64 / 2 = n / 2 by omega]
  exact step 1 _ _ (Nat.le_refl _) (step 0 _ _ (Nat.zero_le _) ⟨rfl, fun _ => rfl, fun h => by have h : 1 ≤ 0 := h; omega⟩)
end
section
set_option linter.unusedVariables false
open Go.RowKit
set_option maxRecDepth 100000 in
theorem texts_next {ls ms : List (List B8)} {k : Nat} (hl : k < ls.length) (hm : k < ms.length) (h : ls.take k = ms.take k) (e : ls[k] = ms[k]) : ls.take (k + 1) = ms.take (k + 1) := by
  rw [List.take_succ_eq_append_getElem hl, List.take_succ_eq_append_getElem hm, h, e]
set_option maxRecDepth 100000 in
set_option maxHeartbeats 2000000 in
theorem rsame13_any (A A' : Option Addr) (c c' : Nat) (ls ms : List (List B8)) (w : World) (hx : Lst w A ls) (hy : Lst w A' ms) (hlx : ls.length ≤ 1000000) (hly : ms.length ≤ 1000000) (hbx : ∀ x ∈ ls, x.length ≤ maxLen) (hby : ∀ x ∈ ms, x.length ≤ maxLen) :
    Calls Tryd.prog 35 #[.slice A ls.length c, .slice A' ms.length c'] w fun e w' => e = .returned (.bool (decide (ls = ms))) ∧ ∃ n, w' = w.drewN n := by
  have HX := Lib.hid hx
  have HY := Lib.hid hy
  have HBX := Lib.hid hbx
  have HBY := Lib.hid hby
  clear hx hy hbx hby
  by_cases hl : ls.length = ms.length
  case neg =>
    have HD := Lib.hid (show decide (ls = ms) = false from decide_eq_false fun h => hl (by rw [h]))
    have hl2 : ((ls.length : Int) == (ms.length : Int)) = false := by rw [beq_eq_false_iff_ne]; omega
    go_enter Tryd.func35, Tryd.ntmps35
    go_wp2
    go_ret
    rw [HD.out]
    exact ⟨rfl, 0, rfl⟩
  have HL := Lib.hid hl
  have hl2 : ((ls.length : Int) == (ms.length : Int)) = true := by rw [beq_iff_eq]; omega
  clear hl
  go_enter Tryd.func35, Tryd.ntmps35
  go_wp2
  go_loopw [5] (fun i wr => ∃ k n : Nat, k ≤ ls.length ∧ i = .int .i64 (k : Int) ∧ ls.take k = ms.take k ∧ wr = w.drewN n) (fun i _ => ls.length - (intOf i).toNat)
  case atStart => exact ⟨0, 0, Nat.zero_le _, rfl, by simp, rfl⟩
  case round =>
    obtain ⟨k, n, hk, rfl, he, hwr⟩ := hrel
    have HE := Lib.hid he
    rw [hwr]
    clear he hwr wr
    by_cases hlt : k < ls.length
    · have hlt' : k < ms.length := by have := HL.out; omega
      obtain ⟨ad, Ai, ci, rfl, hc, hci, hb⟩ := HX.out k ls[k] (List.getElem?_eq_getElem hlt)
      obtain ⟨ad', Ai', ci', rfl, hc', hci', hb'⟩ := HY.out k ms[k] (List.getElem?_eq_getElem hlt')
      have hc1 : ∀ n, (w.drewN n).cell? (ad.add k) = some (.slice Ai ls[k].length ci) := fun n => hc
      have hc2 : ∀ n, (w.drewN n).cell? (ad'.add k) = some (.slice Ai' ms[k].length ci') := fun n => hc'
      have HT := Lib.hid (texts_next hlt hlt' HE.out)
      have HN := Lib.hid (show ls[k] ≠ ms[k] → decide (ls = ms) = false from fun h => by
        rw [decide_eq_false_iff_not]; intro e; subst e; exact h rfl)
      have HB := Lib.hid hb
      have HB' := Lib.hid hb'
      have h63 := HBX.out _ (List.getElem_mem hlt)
      have h63' := HBY.out _ (List.getElem_mem hlt')
      have LK := Lib.hid hlt
      have LK' := Lib.hid hlt'
      clear hc hc' hb hb'
      generalize ls[k] = xs at HT HN HB h63 hc1 hci ⊢
      generalize ms[k] = ys at HT HN HB' h63' hc2 hci' ⊢
      unfold maxLen at h63 h63'
      by_cases hxy : xs.length = ys.length
      case neg =>
        have q : ((xs.length : Int) == (ys.length : Int)) = false := by rw [beq_eq_false_iff_ne]; omega
        have HN2 := Lib.hid (HN.out (fun e => hxy (by rw [e])))
        clear HT HN hxy
        go_wp2
        go_quiet (fail)
        go_wp2
        go_ret
        rw [HN2.out]
        exact ⟨rfl, n + nq, World.drewN_drewN ..⟩
      have q : ((xs.length : Int) == (ys.length : Int)) = true := by rw [beq_iff_eq]; omega
      have HXY := Lib.hid hxy
      clear hxy
      go_wp2
      go_quiet (fail)
      go_wp2
      go_loopw [6] (fun j wr => ∃ m n : Nat, m ≤ xs.length ∧ j = .int .i64 (m : Int) ∧ xs.take m = ys.take m ∧ wr = w.drewN n) (fun j _ => xs.length - (intOf j).toNat)
      case atStart => exact ⟨0, n + nq, Nat.zero_le _, rfl, by simp, World.drewN_drewN ..⟩
      case round =>
        obtain ⟨m, n2, hm, rfl, he, hwr⟩ := hrel
        have HE2 := Lib.hid he
        rw [hwr]
        clear he hwr wr
        by_cases hlm : m < xs.length
        · have hlm' : m < ys.length := by have := HXY.out; omega
          obtain ⟨bd, rfl, hd⟩ := HB.out m (bv xs[m]) (bvs_at xs m hlm)
          obtain ⟨bd', rfl, hd'⟩ := HB'.out m (bv ys[m]) (bvs_at ys m hlm')
          have hd1 : ∀ n, (w.drewN n).cell? (bd.add m) = some (bv xs[m]) := fun n => hd
          have hd2 : ∀ n, (w.drewN n).cell? (bd'.add m) = some (bv ys[m]) := fun n => hd'
          have HT3 := Lib.hid (show xs[m] = ys[m] → xs.take (m + 1) = ys.take (m + 1) from fun h => by rw [List.take_succ_eq_append_getElem hlm, List.take_succ_eq_append_getElem hlm', HE2.out, h])
          have HN3 := Lib.hid (show xs[m] ≠ ys[m] → xs ≠ ys from fun h e => by subst e; exact h rfl)
          clear hd hd'
          generalize xs[m] = x at HT3 HN3 hd1 ⊢
          generalize ys[m] = y at HT3 HN3 hd2 ⊢
          unfold bv at hd1 hd2
          by_cases hxy : x = y
          · have q3 : ((x.toNat : Int) == (y.toNat : Int)) = true := by rw [hxy, beq_self_eq_true]
            have HT4 := Lib.hid (HT3.out hxy)
            clear HT3 HN3 hxy
            go_wp2
            go_quiet (fail)
            go_wp2
            go_roundw
            case rel => exact ⟨m + 1, n2 + nq, by omega, by go_num, HT4.out, rfl⟩
            case measure => simp [intOf]; omega
          · have q3 : ((x.toNat : Int) == (y.toNat : Int)) = false := by rw [beq_eq_false_iff_ne]; exact fun h => hxy (bv_inj.1 h)
            have HN4 := Lib.hid (HN.out (HN3.out hxy))
            clear HT3 HN3 hxy
            go_wp2
            go_quiet (fail)
            go_wp2
            go_ret
            rw [HN4.out]
            exact ⟨rfl, n2 + nq, World.drewN_drewN ..⟩
        · have hxy : xs = ys := by
            have h := HE2.out
            rw [List.take_of_length_le (by omega), List.take_of_length_le (by have := HXY.out; omega)] at h
            exact h
          have HT5 := Lib.hid (HT.out hxy)
          clear hxy
          go_wp2
          go_roundw
          case rel => exact ⟨k + 1, _, by have := LK.out; omega, by go_num, HT5.out, rfl⟩
          case measure => have := LK.out; simp [intOf]; omega
    · have HD : decide (ls = ms) = true := by
        have h := HE.out
        rw [List.take_of_length_le (by omega), List.take_of_length_le (by have := HL.out; omega)] at h
        exact decide_eq_true h
      have HD := Lib.hid HD
      go_wp2
      go_ret
      rw [HD.out]
      exact ⟨rfl, _, rfl⟩
end
end Go.Proofs.YtajdcekkmikbcaaDoor
