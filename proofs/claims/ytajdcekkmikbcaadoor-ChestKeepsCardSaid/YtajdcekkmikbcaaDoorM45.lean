/- Merged: The landed chest's begin. The landed chest's Open. The landed chest's Head, Notes. -/
import Derived.Test.YtajdcekkmikbcaaDoorM44
namespace Go.Proofs.YtajdcekkmikbcaaDoor
section
set_option linter.unusedVariables false
set_option linter.unusedSimpArgs false
open Go.RowKit
set_option maxRecDepth 100000
def NewS (B : Nat) (v : Value) (w : World) : Prop := ∃ x, B ≤ x ∧ v = .pointer (some ⟨x, 0, none⟩) ∧ w.heap[x]? = some (.cells #[.int .i64 0, .int .i64 0] 47 (0, 0))
theorem fnd_spec (d : Dr) (n : Nat) : (fnd d n).2 = 0 ∨ (1 ≤ (fnd d n).2 ∧ (fnd d n).1 ≤ 1 ∧ pkT d n (fnd d n).1 = (fnd d n).2) := by
  rw [show fnd d n = fndK d n 1 (fndK d n 0 (0, 0)) from rfl]
  by_cases h0 : 0 < pkT d n 0
  · rw [show fndK d n 0 (0, 0) = (0, pkT d n 0) from if_pos h0]
    by_cases h1 : pkT d n 0 < pkT d n 1
    · rw [show fndK d n 1 (0, pkT d n 0) = (1, pkT d n 1) from if_pos h1]
      exact .inr ⟨by show 1 ≤ pkT d n 1; omega, Nat.le_refl _, rfl⟩
    · rw [show fndK d n 1 (0, pkT d n 0) = (0, pkT d n 0) from if_neg h1]
      exact .inr ⟨h0, Nat.zero_le _, rfl⟩
  · rw [show fndK d n 0 (0, 0) = (0, 0) from if_neg h0]
    by_cases h1 : 0 < pkT d n 1
    · rw [show fndK d n 1 (0, 0) = (1, pkT d n 1) from if_pos h1]
      exact .inr ⟨h1, Nat.le_refl _, rfl⟩
    · rw [show fndK d n 1 (0, 0) = (0, 0) from if_neg h1]
      exact .inl rfl
theorem pkT_read {d : Dr} {n a t : Nat} (h : pkT d n a = t) (ht : 1 ≤ t) : ∃ r, readS (cutD d (a * (n / 2)) (n / 2)) = some r ∧ r.n = 0 ∧ r.t = t := by
  unfold pkT peekV at h
  simp only [Int.toNat_natCast] at h
  split at h
  · omega
  · rename_i r hr
    split at hr
    · cases hr
    · split at hr
      · cases hr
      · rename_i r' hr'
        split at hr
        · injection hr with hr
          subst hr
          exact ⟨_, hr', by assumption, h⟩
        · cases hr
/-- What stands on the live side. -/
theorem fnd_scan {d : Dr} {n a t : Nat} (ok : d.Ok n) (hn : n ≤ 8192) (h : fnd d n = (a, t)) (ht : 1 ≤ t) : t ≤ mostS ∧ (∃ x xs, (scanN (cutD d (a * (n / 2)) (n / 2)) t 0).1 = x :: xs) ∧ (∀ x ∈ (scanN (cutD d (a * (n / 2)) (n / 2)) t 0).1, x.length ≤ 900000) ∧ (scanN (cutD d (a * (n / 2)) (n / 2)) t 0).1.length ≤ (scanN (cutD d (a * (n / 2)) (n / 2)) t 0).2 ∧ (scanN (cutD d (a * (n / 2)) (n / 2)) t 0).2 ≤ n / 2 := by
  have hs := fnd_spec d n
  rw [h] at hs
  rcases hs with hs | ⟨-, ha, hp⟩
  · have : t = 0 := hs
    omega
  · have ha : a ≤ 1 := ha
    obtain ⟨r, hr, hr0, hrt⟩ := pkT_read hp ht
    have hrt : r.t = t := hrt
    obtain ⟨-, -, b3, -⟩ := read_back hr
    have hcl := cutD_len ok (a * (n / 2)) (n / 2) (by
      rcases Nat.lt_or_ge a 1 with h1 | h1
      · obtain rfl : a = 0 := by omega
        omega
      · obtain rfl : a = 1 := by omega
        omega)
    obtain ⟨-, s2, s3, s4⟩ := scan_back t _ (cutD d (a * (n / 2)) (n / 2)) 0 (Nat.le_refl _)
    have hle := scanN_le t (cutD d (a * (n / 2)) (n / 2)).length (cutD d (a * (n / 2)) (n / 2)) 0 (Nat.le_refl _)
    have hge := secsS_ge t (scanN (cutD d (a * (n / 2)) (n / 2)) t 0).1 0
    refine ⟨by omega, ?_, fun x hx => ?_, by omega, by rw [hcl] at hle; omega⟩
    · have h1 := scanN_some hr
      rw [hrt, hr0] at h1
      exact ⟨_, _, by rw [h1]⟩
    · obtain ⟨i, hi, rfl⟩ := List.getElem_of_mem hx
      have h1 := (s3 i hi).1
      have h2 : (scanN (cutD d (a * (n / 2)) (n / 2)) t 0).1[i].length ≤ (fldS t (0 + i) (scanN (cutD d (a * (n / 2)) (n / 2)) t 0).1[i]).length := by simp [fldS]; omega
      omega
theorem size_sl (w : World) : (sizeOf 36).run Tryd.prog w = .ok 1 w := by kernel_rfl
theorem cut_block (ad : Addr) (c n k : Nat) : (Value.slice (cutA (some ad) c 1) n k).ownBlock = some ad.block := by
  unfold cutA
  split
  · rfl
  · show some ((ad.add 1).block) = _
    rw [add_block]
theorem ownsO_tail {w : World} {B n c : Nat} {ty : TypeId} {ad : Addr} {vs : List Value} (h : w.ownsRow B ty 1 (.slice (some ad) n c) n vs) (hn : 0 < n) : ∃ o, ownsO w B ty o (.slice (cutA (some ad) c 1) (n - 1) (c - 1)) (n - 1) vs.tail := by
  obtain ⟨h1, h2⟩ := h
  rcases h2 with ⟨e, -⟩ | ⟨g, cap, cur, e, hg, hh, hnc, hcm, hcs, htk⟩
  · cases e
  · injection e with e1 e2 e3
    injection e1 with e1
    subst e1 e3
    have hl : vs.tail.length = n - 1 := by rw [List.length_tail]; omega
    have hcl : cur.toList.length = cur.size := Array.length_toList
    by_cases hc : c = 1
    · have hn1 : n = 1 := by omega
      refine ⟨0, hl, .inr ⟨g, c - 1, cur, ?_, hg, hh, by omega, by omega, by omega, ?_⟩⟩
      · unfold cutA; rw [if_pos hc]
      · rw [hn1] at hl ⊢
        rw [List.eq_nil_of_length_eq_zero (show vs.tail.length = 0 by omega)]; rfl
    · refine ⟨1, hl, .inr ⟨g, c - 1, cur, ?_, hg, hh, by omega, by omega, by omega, ?_⟩⟩
      · unfold cutA; rw [if_neg hc]
        show Value.slice (some ((⟨g, 0, none⟩ : Addr).add 1)) _ _ = _
        rw [Addr.add_lit]
      · rw [← htk, Nat.mul_one]
        rw [← List.drop_one, List.drop_take]
theorem txt_tail {w : World} {N : Nat → Prop} {xs : List (List B8)} {vs : List Value} (h : TxtV w N xs vs) : TxtV w N xs.tail vs.tail := ⟨by rw [List.length_tail, List.length_tail, h.1], fun i x hi => by
  rw [List.getElem?_tail] at hi ⊢
  exact h.2 (i + 1) x hi⟩
/-- What Open comes to, on the drum; and the chest. -/
def begR (d : Dr) (n : Nat) : Dr × Nat := if (fnd d n).2 < 1 then layR d (0 * (n / 2)) (n / 2) 1 [] else
  wipeR d ((fnd d n).1 * (n / 2) + (scanN (cutD d ((fnd d n).1 * (n / 2)) (n / 2)) (fnd d n).2 0).2) (n / 2 - (scanN (cutD d ((fnd d n).1 * (n / 2)) (n / 2)) (fnd d n).2 0).2)
def begK (d : Dr) (n : Nat) : Ck := if (fnd d n).2 < 1 then ⟨0, 1, [[]], 0 * (n / 2) + secsOf (formV13 ((1 : Nat) : Int) 0 [])⟩ else
  ⟨(fnd d n).1, (fnd d n).2, (scanN (cutD d ((fnd d n).1 * (n / 2)) (n / 2)) (fnd d n).2 0).1, (fnd d n).1 * (n / 2) + (scanN (cutD d ((fnd d n).1 * (n / 2)) (n / 2)) (fnd d n).2 0).2⟩
def BPost (g c n : Nat) (d : Dr) (D : Nat → Prop) (w : World) (r : Ending) (w' : World) : Prop :=
  ∃ D', (∀ j, D' j → Dn D w w' j) ∧ r = .returned (.int .i64 ((begR d n).2 : Int)) ∧
    (((begR d n).2 = 0 ∧ ∃ E', KAt w' g c n (begR d n).1 (begK d n) D' E' ∧ (∀ j, E' j → j = c ∨ (w.heap.size ≤ j ∧ j < w'.heap.size)) ∧ Turn (fun j => D j ∨ j = c) w w')
    ∨ ((begR d n).2 ≠ 0 ∧ LD w' g n (begR d n).1 D' ∧ Turn D w w'))
set_option maxHeartbeats 16000000 in
theorem kbegin0_any (w : World) (g c n t : Nat) (d : Dr) (D : Nat → Prop) (PS H0 N0 : Value) (ld : LD w g n d D) (hoff : d.off = false) (hn : n ≤ 8192) (bx : KBox w c PS (.pointer (some ⟨g, 0, none⟩)) ((n / 2 : Nat) : Int) 0 t H0 N0) (hcD : ¬ D c) (hc2 : 2 ≤ c) (ht : fnd d n = (0, t)) (ht1 : 1 ≤ t) (hW : d.W.length + n / 2 + 1024 < 10000) :
    Calls Tryd.prog 33 #[.pointer (some ⟨c, 0, none⟩)] w (BPost g c n d D w) := by
  obtain ⟨hf, hhf⟩ : ∃ x, x = n / 2 := ⟨_, rfl⟩
  have hp0 : 0 * (n / 2) = 0 := by omega
  obtain ⟨htm, hne, hsb, hsl⟩ := fnd_scan ld.ok hn ht ht1
  rw [hp0, ← hhf] at hne hsb hsl
  have hQ : BPost g c n d D w = fun r w' => ∃ D', (∀ j, D' j → Dn D w w' j) ∧ r = .returned (.int .i64 ((wipeR d (0 + (scanN (cutD d 0 hf) t 0).2) (hf - (scanN (cutD d 0 hf) t 0).2)).2 : Int)) ∧
    (((wipeR d (0 + (scanN (cutD d 0 hf) t 0).2) (hf - (scanN (cutD d 0 hf) t 0).2)).2 = 0 ∧ ∃ E', KAt w' g c n (wipeR d (0 + (scanN (cutD d 0 hf) t 0).2) (hf - (scanN (cutD d 0 hf) t 0).2)).1 ⟨0, t, (scanN (cutD d 0 hf) t 0).1, 0 + (scanN (cutD d 0 hf) t 0).2⟩ D' E' ∧ (∀ j, E' j → j = c ∨ (w.heap.size ≤ j ∧ j < w'.heap.size)) ∧ Turn (fun j => D j ∨ j = c) w w')
    ∨ ((wipeR d (0 + (scanN (cutD d 0 hf) t 0).2) (hf - (scanN (cutD d 0 hf) t 0).2)).2 ≠ 0 ∧ LD w' g n (wipeR d (0 + (scanN (cutD d 0 hf) t 0).2) (hf - (scanN (cutD d 0 hf) t 0).2)).1 D' ∧ Turn D w w')) := by
    funext r w'
    unfold BPost begR begK
    rw [ht, if_neg (by show ¬ t < 1; omega), if_neg (by show ¬ t < 1; omega)]
    simp only
    rw [hp0, ← hhf]
  rw [← hhf] at bx hW
  have HR := Lib.hid (show ∀ w2 : World, Stp w w2 → w2.rangeAt c 2 [.int .i64 0, .int .i64 hf] from fun w2 hs => by
    have bx2 := bx.turn (Turn.of_below hs) (fun h => h)
    obtain ⟨-, -, c2, c3, c4, c5, -⟩ := bx2.cells
    intro j v hj
    match j, hj with
    | 0, hj => injection hj with hj; subst hj; exact c2
    | 1, hj => injection hj with hj; subst hj; exact c3)
  have KS := Lib.hid (show (Tryd.prog.info? 47).map (·.size) = some 2 by kernel_rfl)
  have HQ := Lib.hid hQ
  have BX := Lib.hid bx
  have LX := Lib.hid ld
  have HHF := Lib.hid hhf
  have HCW := Lib.hid bx.lt
  have HLT := Lib.hid ld.lt
  have HW := Lib.hid hW
  have HSB := Lib.hid hsb
  have HSL := Lib.hid hsl
  have HT := Lib.hid htm
  have HT1 := Lib.hid ht1
  have HFN := Lib.hid ht
  have HNE := Lib.hid hne
  obtain ⟨c0, c1, c2, c3, c4, c5, c6, c7, -, -⟩ := bx.cells
  have dt : decide ((t : Int) < 1) = false := decide_eq_false (by omega)
  have dt' : decide (t < 1) = false := decide_eq_false (by omega)
  clear hQ bx ld hhf hp0 hW hsb hsl htm ht ht1 hne
  go_enter Tryd.func33, Tryd.ntmps33
  go_upto_region 3 with fail
  have SN : ∀ (v : Value) (w1 w2 : World), NewS w.heap.size v w1 → Stp w1 w2 → NewS w.heap.size v w2 := fun v w1 w2 ⟨x, h1, h2, h3⟩ hs => ⟨x, h1, h2, (hs.block x (lt_of_block h3)).trans h3⟩
  refine wp_region_rel_tail 10 58 (by kernel_rfl) (by kernel_rfl) Stp [.one ?_, .one ?_, .one ?_, .one ?_, .one ?_, .one ?_, .one ?_, .one ?_, .one ?_, .rel (NewS w.heap.size)] (by kernel_rfl) rfl (by kernel_rfl) Stp.refl Stp.trans ⟨SN, trivial⟩ ?main
  case main =>
  simp only [List.take_succ_cons, List.take_zero, List.drop_succ_cons, List.drop_zero]
  iterate 4
    refine wpR_one (A' := ?_) Stp.refl (by rfl) _ rfl 58 (by rfl) (by rfl) ?_ ?_ ?_
    rotate_left 1
    · simp only [Act.put, List.setIfInBounds_toArray, List.set_cons_zero, List.set_cons_succ]; rfl
    · intro w1 hs hf K hK
      go_big_quiet_op
      first
        | go_big_quiet_on
        | (refine ⟨_, fun _ _ => rfl, ?_⟩; go_big_quiet_on)
      rfl
  refine wpR_one (A' := ?_) Stp.refl (by rfl) _ rfl 58 (by rfl) (by rfl) ?_ ?_ ?_
  rotate_left 1
  · simp only [Act.put, List.setIfInBounds_toArray, List.set_cons_zero, List.set_cons_succ]; rfl
  · intro w1 hs hf K hK
    refine cls_load_cell 3 (.tmp 17) rfl ⟨c, 6, none⟩ rfl (.int .i64 0) (fun w h => by simp [go_sem, h]) (fun w2 h2 => (Turn.of_below (Stp.trans _ _ _ hs h2)).cell (show w.drew.cell? _ = _ from c6) (fun h => h)) ?_
    refine hK _ ?_
    simp only [Act.put, List.setIfInBounds_toArray, List.set_cons_zero, List.set_cons_succ]
    rfl
  iterate 3
    refine wpR_one (A' := ?_) Stp.refl (by rfl) _ rfl 58 (by rfl) (by rfl) ?_ ?_ ?_
    rotate_left 1
    · simp only [Act.put, List.setIfInBounds_toArray, List.set_cons_zero, List.set_cons_succ]; rfl
    · intro w1 hs hf K hK
      go_big_quiet_op
      first
        | go_big_quiet_on
        | (refine ⟨_, fun _ _ => rfl, ?_⟩; go_big_quiet_on)
      rfl
  refine wpR_one (A' := ?_) Stp.refl (by rfl) _ rfl 58 (by rfl) (by rfl) ?_ ?_ ?_
  rotate_left 1
  · simp only [Act.put, List.setIfInBounds_toArray, List.set_cons_zero, List.set_cons_succ]; rfl
  · intro w1 hs hf_ K hK
    refine cls_load 47 (.tmp 21) rfl c 2 rfl [.int .i64 0, .int .i64 hf] _ (fun w2 h2 => HR.out w2 (show Stp w w2 from by have h := Stp.trans _ _ _ hs h2; exact ⟨h.os, h.tape, h.output, h.size, h.block⟩)) Tryd.underlying47 rfl KS.out ?_
    refine hK _ ?_
    simp only [Act.put, List.setIfInBounds_toArray, List.set_cons_zero, List.set_cons_succ]
    rfl
  refine wpR_rel (A' := ?_) (by rfl) ?_ ?_ ?_
  · intro w1 hs hf_
    refine does_run (u := .pointer (some ⟨w1.heap.size, 0, none⟩)) (w' := w1.alloc (.cells #[.int .i64 0, .int .i64 0] 47)) (by kernel_rfl) ?_
    exact ⟨⟨_, hs.size, rfl, heap_alloc_new _ _⟩, (Below.refl _ _).alloc (Nat.le_refl _) _⟩
  rotate_left 1
  · intro x
    simp only [Act.put, List.setIfInBounds_toArray, List.set_cons_zero, List.set_cons_succ]; rfl
  intro x3
  intro w9 hs hf9
  obtain ⟨⟨x, hxw, hx3, hhx⟩, -⟩ := hf9
  have hx3 : x3 = .pointer (some ⟨x, 0, none⟩) := hx3
  subst hx3
  have T9 := Lib.hid (show Turn (fun _ => False) w w9 from Turn.of_below (show Below w.heap.size w w9 from ⟨hs.os, hs.tape, hs.output, hs.size, hs.block⟩))
  have XW := Lib.hid (show w.heap.size ≤ x from hxw)
  have HHX := Lib.hid (show w9.heap[x]? = some (.cells #[.int .i64 0, .int .i64 0] 47 (0, 0)) from hhx)
  clear hs hhx hxw SN c0 c1 c2 c3 c4 c5 c6 c7
  obtain ⟨w1, hw1⟩ : ∃ w1, w1 = w9.setRow x #[.int .i64 0, .int .i64 hf] := ⟨_, rfl⟩
  have HXW := XW.out
  have t1 : Turn (fun _ => False) w w1 := by rw [hw1]; exact T9.out.setRow x _ (fun h => by omega)
  have X1 := Lib.hid (show w1.heap[x]? = some (.cells #[.int .i64 0, .int .i64 hf] 47 (0, 0)) by rw [hw1]; exact setRow_heap _ _ _ _ _ _ HHX.out)
  have B1 := Lib.hid (BX.out.turn t1 (fun h => h))
  have L1 := Lib.hid (LX.out.quiet t1)
  have HXD := Lib.hid (show ¬ D x from fun h => by have := HLT.out x h; omega)
  have T1 := Lib.hid t1
  have hxc : x ≠ c := by have := HCW.out; omega
  have OP := openO_any w1.drew g n 0 hf t d D (L1.out.quiet ((Turn.refl _ _).drew)) hoff hn (by have := HHF.out; omega) HT.out (by have := HW.out; omega)
  rw [show (((0 : Nat) : Int)) = 0 by rfl] at OP
  have hne := HNE.out
  obtain ⟨S, hS⟩ : ∃ S, S = scanN (cutD d 0 hf) t 0 := ⟨_, rfl⟩
  rw [← hS] at OP HQ HSB HSL hne
  have HNE2 := Lib.hid hne
  obtain ⟨⟨d1, e1⟩, hd1⟩ : ∃ y, y = wipeR d (0 + S.2) (hf - S.2) := ⟨_, rfl⟩
  rw [← hd1] at OP HQ
  refine wpList_store_row rfl _ _ _ rfl x #[.int .i64 0, .int .i64 hf] rfl rfl 47 _ HHX.out KS.out rfl (by simp [Value.oneCell']) ?_
  rw [← hw1]
  clear hw1 t1 HXW HHX XW HR hS HNE hne hd1
  obtain ⟨-, q1, -, -, -, -, -, q7, -, -⟩ := B1.out.cells
  have x0 : w1.cell? ⟨x, 0, none⟩ = some (.int .i64 0) := by rw [cell_of_row _ _ _ _ _ _ X1.out]; rfl
  have x1 : w1.cell? ⟨x, 1, none⟩ = some (.int .i64 hf) := by rw [cell_of_row _ _ _ _ _ _ X1.out]; rfl
  by_cases he1 : e1 = 0
  rotate_left 1
  · have E1 := Lib.hid he1
    have OPD := Lib.hid (OP.mono (R' := fun r w' => ∃ D', r = .returned (.tuple #[.pointer none, .slice none 0 0, .int .i64 (e1 : Int)]) ∧ LD w' g n d1 D' ∧ (∀ k, D' k → Dn D w1.drew w' k) ∧ Turn D w1.drew w') (fun r w' h => by
      obtain ⟨D', h1, h2, h3, h4⟩ := h
      rcases h4 with ⟨h4, -⟩ | ⟨-, h4⟩
      · exact absurd h4 E1.out
      · exact ⟨D', h4, h1, h2, h3⟩))
    have d0 : ((e1 : Int) != 0) = true := by rw [bne_iff_ne]; omega
    clear he1 OP
    go_upto_region 4 with fail
    go_region_held3 (fun w' => w'.cell? ⟨c, 1, none⟩ = some (.pointer (some ⟨g, 0, none⟩)) ∧ w'.cell? ⟨x, 0, none⟩ = some (.int .i64 0) ∧ w'.cell? ⟨x, 1, none⟩ = some (.int .i64 hf) ∧ w'.cell? ⟨c, 7, none⟩ = some (.int .i64 (t : Int)))
      (first | exact ⟨q1, x0, x1, q7⟩ | exact ⟨k1, y0, y1, k7⟩)
      (first
        | (go_at_call 53; refine OPD.out.mono ?_; clear OPD; rintro r w3 ⟨D3, rfl, l3, hD3, t3⟩; have L3 := Lib.hid l3; have HD3 := Lib.hid hD3; have T3 := Lib.hid t3; have k1 := t3.cell (show w1.drew.cell? _ = _ from q1) hcD; have k7 := t3.cell (show w1.drew.cell? _ = _ from q7) hcD; have y0 := t3.cell (show w1.drew.cell? _ = _ from x0) HXD.out; have y1 := t3.cell (show w1.drew.cell? _ = _ from x1) HXD.out; clear l3 hD3 t3))
    have TT := Lib.hid (show Turn D w w3 from ((T1.out.drew).mono (fun _ _ h => h.elim)).trans T3.out (fun _ _ h => h))
    have DD := Lib.hid (show ∀ k, D3 k → Dn D w w3 k from fun k hk => (HD3.out k hk).elim .inl (fun h => .inr ⟨Nat.le_trans T1.out.size h.1, h.2⟩))
    clear k1 k7 y0 y1 q1 q7 x0 x1
    go_wp2
    go_ret
    rw [HQ.out]
    exact ⟨D3, DD.out, rfl, .inr ⟨E1.out, L3.out, TT.out⟩⟩
  have E1 := Lib.hid he1
  have OPD := Lib.hid (OP.mono (R' := fun r w' => ∃ s A cA D' E vs, r = .returned (.tuple #[.pointer (some ⟨s, 0, none⟩), .slice A S.1.length cA, .int .i64 0]) ∧ Ats SBp w' g s n d1 ⟨0 + S.2, 0 + hf, t, S.1.length, false⟩ D' E ∧ w'.ownsRow w1.drew.heap.size 36 1 (.slice A S.1.length cA) S.1.length vs ∧ TxtV w' (fun k => k < w1.drew.heap.size ∨ D' k ∨ E k ∨ (Value.slice A S.1.length cA).ownBlock = some k) S.1 vs ∧ (∀ k, (Value.slice A S.1.length cA).ownBlock = some k → ¬ D' k ∧ ¬ E k) ∧ (∀ k, D' k → Dn D w1.drew w' k) ∧ (∀ k, E k → w1.drew.heap.size ≤ k) ∧ Turn D w1.drew w') (fun r w' h => by
    obtain ⟨D', h1, h2, h3, h4⟩ := h
    rcases h4 with ⟨-, s, A, cA, E, h4, h5, ⟨vs, h6, h7, h8⟩, -, -, h9⟩ | ⟨h4, -⟩
    · exact ⟨s, A, cA, D', E, vs, h4, h5, h6, h7, h8, h2, h9, h3⟩
    · exact absurd he1 h4))
  clear he1 OP
  go_upto_region 4 with fail
  go_region_held3 (fun w' => w'.cell? ⟨c, 1, none⟩ = some (.pointer (some ⟨g, 0, none⟩)) ∧ w'.cell? ⟨x, 0, none⟩ = some (.int .i64 0) ∧ w'.cell? ⟨x, 1, none⟩ = some (.int .i64 hf) ∧ w'.cell? ⟨c, 7, none⟩ = some (.int .i64 (t : Int)))
    (first | exact ⟨q1, x0, x1, q7⟩ | exact ⟨k1, y0, y1, k7⟩)
    (first
      | (go_at_call 53; refine OPD.out.mono ?_; clear OPD; rintro r w3 ⟨s, A, cA, D3, E3, vs, rfl, at3, ow3, tx3, hno3, hD3, hE3, t3⟩; have AT3 := Lib.hid at3; have OW3 := Lib.hid ow3; have TX3 := Lib.hid tx3; have HNO := Lib.hid hno3; have HD3 := Lib.hid hD3; have HE3 := Lib.hid hE3; have T3 := Lib.hid t3; have k1 := t3.cell (show w1.drew.cell? _ = _ from q1) hcD; have k7 := t3.cell (show w1.drew.cell? _ = _ from q7) hcD; have y0 := t3.cell (show w1.drew.cell? _ = _ from x0) HXD.out; have y1 := t3.cell (show w1.drew.cell? _ = _ from x1) HXD.out; clear at3 ow3 tx3 hno3 hD3 hE3 t3))
  clear k1 k7 y0 y1 q1 q7 x0 x1
  have TT := Lib.hid (show Turn D w w3 from ((T1.out.drew).mono (fun _ _ h => h.elim)).trans T3.out (fun _ _ h => h))
  have DD := Lib.hid (show ∀ k, D3 k → Dn D w w3 k from fun k hk => (HD3.out k hk).elim .inl (fun h => .inr ⟨Nat.le_trans T1.out.size h.1, h.2⟩))
  have B3 := Lib.hid (show KBox w3 c PS (.pointer (some ⟨g, 0, none⟩)) hf 0 t H0 N0 from KBox.turn (w := w1.drew) B1.out T3.out hcD)
  obtain ⟨y, ys, hys⟩ := HNE2.out
  have hvl := TX3.out.1
  obtain ⟨Ay, cy, hv0, hcy, hAy, sly⟩ := TX3.out.2 0 y (by rw [hys]; rfl)
  obtain ⟨A', cA', e, hsl3, -, hcA, hAA⟩ := own_sl OW3.out
  injection e with ea eb ec
  subst ea ec
  obtain ⟨ad, rfl, hadb, hadc⟩ := hsl3 0 _ hv0
  rw [addr_zero0] at hadc
  obtain ⟨q0, q1, q2, q3, q4, q5, q6, q7, q8, q9⟩ := B3.out.cells
  have z0 := B3.out.frozen 0
  have z8 := B3.out.frozen 8
  have z9 := B3.out.frozen 9
  obtain ⟨ln, hln⟩ : ∃ ln, ln = S.1.length := ⟨_, rfl⟩
  have hl1 : 0 < ln := by rw [hln, hys]; exact Nat.succ_pos _
  have hl1i : (0 : Int) < (ln : Int) := by omega
  rw [← hln] at hcA OW3 AT3 HNO TX3
  have HLN := Lib.hid hln
  obtain ⟨A3, hA3⟩ : ∃ x, x = cutA (some ad) cA 1 := ⟨_, rfl⟩
  obtain ⟨c3, hc3⟩ : ∃ x, x = cA - 1 := ⟨_, rfl⟩
  have SLI : ∀ w, (Instr.slice 31 (.slice (some ad) ln cA) (some (.int .i64 1)) none none).run Tryd.prog w = .ok (.slice A3 (ln - 1) c3) w := fun w => by
    rw [run_slice_l (P := Tryd.prog) w 31 (some ad) ln cA (by kernel_rfl) .i64 1 (by omega) (by omega)]
    rw [show Tryd.prog.elem 31 = 36 by kernel_rfl, size_sl]
    simp only [Result.andThen, sliced, hA3, hc3, cutA, Nat.mul_one]
    rfl
  have HA3 := Lib.hid hA3
  have HC3 := Lib.hid hc3
  clear hA3 hc3
  rw [← hln]
  clear hln
  go_upto_region 7 with fail
  go_region
  go_wp2
  go_ret
  rw [HQ.out]
  obtain ⟨w4, hw4⟩ : ∃ w4, w4 = (((w3.setCell ⟨c, 0, none⟩ (.pointer (some ⟨s, 0, none⟩))).setCell ⟨c, 8, none⟩ (.slice Ay y.length cy)).setCell ⟨c, 9, none⟩ (.slice A3 (ln - 1) c3)).drew := ⟨_, rfl⟩
  have T4 : Turn (fun k => k = c) w3 w4 := by
    rw [hw4]
    exact ((((Turn.refl (fun k => k = c) w3).setCell ⟨c, 0, none⟩ _ (fun _ => rfl)).setCell ⟨c, 8, none⟩ _ (fun _ => rfl)).setCell ⟨c, 9, none⟩ _ (fun _ => rfl)).drew
  have B4 : KBox w4 c (.pointer (some ⟨s, 0, none⟩)) (.pointer (some ⟨g, 0, none⟩)) hf 0 t (.slice Ay y.length cy) (.slice A3 (ln - 1) c3) := by
    rw [hw4]
    exact ((B3.out.set0 (.pointer (some ⟨s, 0, none⟩))).set8 (.slice Ay y.length cy)).set9 (.slice A3 (ln - 1) c3)
  rw [← hw4]
  clear hw4 z0 z8 z9 q0 q1 q2 q3 q4 q5 q6 q7 q8 q9
  have hsE : ∀ k, E3 k ↔ k = s := AT3.out.sb.2.1
  have hsW : w1.heap.size ≤ s := HE3.out s ((hsE s).2 rfl)
  have h1sz := T1.out.size
  have hcW := HCW.out
  have hsz := T4.size
  have hD3c : ¬ D3 c := fun h => (DD.out c h).elim hcD (fun h => by have := h.1; omega)
  have hD3s : ¬ D3 s := AT3.out.dj s ((hsE s).2 rfl)
  have hrow := OW3.out.lt ad.block rfl
  have hr1 : w1.heap.size ≤ ad.block := hrow.1
  have hD3r := HNO.out ad.block rfl
  have hrs : ad.block ≠ s := fun e => hD3r.2 ((hsE _).2 e)
  have hrc : ad.block ≠ c := by omega
  have hob : (Value.slice A3 (ln - 1) c3).ownBlock = some ad.block := by rw [HA3.out]; exact cut_block ad cA _ _
  have hs3 := AT3.out.lt s ((hsE s).2 rfl)
  obtain ⟨o, hoO⟩ := ownsO_tail (own_turn T4 OW3.out (fun q hq e => by injection hq with hq; have hq : ad.block = q := hq; have e : q = c := e; omega)) hl1
  rw [← HA3.out, ← HC3.out] at hoO
  have hN : ∀ j, j < w3.heap.size → (D3 j ∨ (j = s ∨ j = c ∨ j = ad.block)) → (j < w1.drew.heap.size ∨ D3 j ∨ E3 j ∨ (Value.slice (some ad) ln cA).ownBlock = some j) := fun j hj h => by
    rcases h with h | h | h | h
    · exact .inr (.inl h)
    · exact .inr (.inr (.inl ((hsE j).2 h)))
    · left; show j < w1.heap.size; omega
    · right; right; right; show some ad.block = some j; rw [h]
  have hSc : ∀ j, j = c → (j < w1.drew.heap.size ∨ D3 j ∨ E3 j ∨ (Value.slice (some ad) ln cA).ownBlock = some j) := fun j h => by left; show j < w1.heap.size; omega
  have hlnS := HLN.out
  obtain ⟨hsl1, hsl2⟩ := HSL.out
  refine ⟨D3, fun j hj => (DD.out j hj).elim .inl (fun h => .inr ⟨h.1, Nat.lt_of_lt_of_le h.2 hsz⟩), (by rw [E1.out]; rfl), .inl ⟨E1.out, fun j => j = s ∨ j = c ∨ j = ad.block, ⟨AT3.out.ld.keep T4 (fun j hj e => by have e : j = c := e; subst e; exact hD3c hj) (fun j e => by have e : j = c := e; subst e; exact hc2), ⟨by show 0 ≤ 1; omega, HT.out, ?_, ?_, ?_, fun z hz => HSB.out z hz⟩, ⟨s, y, Ay, cy, .slice A3 (ln - 1) c3, o, vs.tail, ?_, ?_, ?_, ?_, hAy, hcy, ?_, ?_, by omega, .inl rfl, fun j hj => ?_⟩, .inr (.inl rfl), ?_, ?_, ?_⟩, ?_, ?_⟩⟩
  · show 0 + S.2 ≤ 0 * (n / 2) + n / 2
    rw [← HHF.out]; omega
  · show 1 ≤ S.1.length
    rw [← hlnS]; exact hl1
  · show S.1.length ≤ 1000000
    have := HHF.out
    omega
  · have h := B4
    rw [HHF.out] at h
    exact h
  · obtain ⟨h1, -, h3⟩ := sbp_keep AT3.out.sb T4 (fun k hk e => by have h1 := (hsE k).1 hk; have e : k = c := e; omega)
    refine ⟨h1, fun k => Iff.rfl, ?_⟩
    have e : (Scr.mk (0 + S.2) (0 + hf) t ln false) = (Ck.mk 0 t S.1 (0 + S.2)).scr (n / 2) := by
      unfold Ck.scr Ck.fin
      show _ = Scr.mk (0 + S.2) (0 * (n / 2) + n / 2) t S.1.length false
      rw [← HHF.out, ← hlnS, show 0 * hf = 0 by omega]
    rw [← e]; exact h3
  · show S.1 = y :: S.1.tail
    rw [hys]; rfl
  · exact sly.turn T4 hSc hN
  · show ownsO w4 2 _ o _ S.1.tail.length vs.tail
    rw [List.length_tail, ← hlnS]
    exact ownsO_base hoO (by have := L1.out.glob.1; show 2 ≤ w1.heap.size; omega)
  · show TxtV w4 _ S.1.tail vs.tail
    exact (txt_tail TX3.out).turn T4 hSc hN
  · rw [hob] at hj
    injection hj with hj
    subst hj
    exact ⟨.inr (.inr rfl), hrs, hrc⟩
  · intro j hj
    have := L1.out.glob.1
    rcases hj with h | h | h
    · omega
    · omega
    · omega
  · intro j hj
    rcases hj with h | h | h
    · rw [h]; exact hD3s
    · rw [h]; exact hD3c
    · rw [h]; exact hD3r.1
  · intro j hj
    rcases hj with h | h | h
    · omega
    · have := B3.out.lt; omega
    · have := hrow.2; omega
  · intro j hj
    rcases hj with h | h | h
    · exact .inr ⟨by omega, by omega⟩
    · exact .inl h
    · exact .inr ⟨by omega, by have := hrow.2; omega⟩
  · exact (TT.out.mono (fun _ _ h => .inl h)).trans T4 (fun _ _ h => .inr h)
set_option maxHeartbeats 16000000 in
theorem kbegin1_any (w : World) (g c n t : Nat) (d : Dr) (D : Nat → Prop) (PS H0 N0 : Value) (ld : LD w g n d D) (hoff : d.off = false) (hn : n ≤ 8192) (bx : KBox w c PS (.pointer (some ⟨g, 0, none⟩)) ((n / 2 : Nat) : Int) 1 t H0 N0) (hcD : ¬ D c) (hc2 : 2 ≤ c) (ht : fnd d n = (1, t)) (ht1 : 1 ≤ t) (hW : d.W.length + n / 2 + 1024 < 10000) :
    Calls Tryd.prog 33 #[.pointer (some ⟨c, 0, none⟩)] w (BPost g c n d D w) := by
  obtain ⟨hf, hhf⟩ : ∃ x, x = n / 2 := ⟨_, rfl⟩
  have hp0 : 1 * (n / 2) = hf := by omega
  obtain ⟨htm, hne, hsb, hsl⟩ := fnd_scan ld.ok hn ht ht1
  rw [hp0, ← hhf] at hne hsb hsl
  have hQ : BPost g c n d D w = fun r w' => ∃ D', (∀ j, D' j → Dn D w w' j) ∧ r = .returned (.int .i64 ((wipeR d (hf + (scanN (cutD d hf hf) t 0).2) (hf - (scanN (cutD d hf hf) t 0).2)).2 : Int)) ∧
    (((wipeR d (hf + (scanN (cutD d hf hf) t 0).2) (hf - (scanN (cutD d hf hf) t 0).2)).2 = 0 ∧ ∃ E', KAt w' g c n (wipeR d (hf + (scanN (cutD d hf hf) t 0).2) (hf - (scanN (cutD d hf hf) t 0).2)).1 ⟨1, t, (scanN (cutD d hf hf) t 0).1, hf + (scanN (cutD d hf hf) t 0).2⟩ D' E' ∧ (∀ j, E' j → j = c ∨ (w.heap.size ≤ j ∧ j < w'.heap.size)) ∧ Turn (fun j => D j ∨ j = c) w w')
    ∨ ((wipeR d (hf + (scanN (cutD d hf hf) t 0).2) (hf - (scanN (cutD d hf hf) t 0).2)).2 ≠ 0 ∧ LD w' g n (wipeR d (hf + (scanN (cutD d hf hf) t 0).2) (hf - (scanN (cutD d hf hf) t 0).2)).1 D' ∧ Turn D w w')) := by
    funext r w'
    unfold BPost begR begK
    rw [ht, if_neg (by show ¬ t < 1; omega), if_neg (by show ¬ t < 1; omega)]
    simp only
    rw [hp0, ← hhf]
  rw [← hhf] at bx hW
  have HR := Lib.hid (show ∀ w2 : World, Stp w w2 → w2.rangeAt c 4 [.int .i64 (hf : Int), .int .i64 hf] from fun w2 hs => by
    have bx2 := bx.turn (Turn.of_below hs) (fun h => h)
    obtain ⟨-, -, c2, c3, c4, c5, -⟩ := bx2.cells
    intro j v hj
    match j, hj with
    | 0, hj => injection hj with hj; subst hj; exact c4
    | 1, hj => injection hj with hj; subst hj; exact c5)
  have KS := Lib.hid (show (Tryd.prog.info? 47).map (·.size) = some 2 by kernel_rfl)
  have HQ := Lib.hid hQ
  have BX := Lib.hid bx
  have LX := Lib.hid ld
  have HHF := Lib.hid hhf
  have HCW := Lib.hid bx.lt
  have HLT := Lib.hid ld.lt
  have HW := Lib.hid hW
  have HSB := Lib.hid hsb
  have HSL := Lib.hid hsl
  have HT := Lib.hid htm
  have HT1 := Lib.hid ht1
  have HFN := Lib.hid ht
  have HNE := Lib.hid hne
  obtain ⟨c0, c1, c2, c3, c4, c5, c6, c7, -, -⟩ := bx.cells
  have dt : decide ((t : Int) < 1) = false := decide_eq_false (by omega)
  have dt' : decide (t < 1) = false := decide_eq_false (by omega)
  clear hQ bx ld hhf hp0 hW hsb hsl htm ht ht1 hne
  go_enter Tryd.func33, Tryd.ntmps33
  go_upto_region 3 with fail
  have SN : ∀ (v : Value) (w1 w2 : World), NewS w.heap.size v w1 → Stp w1 w2 → NewS w.heap.size v w2 := fun v w1 w2 ⟨x, h1, h2, h3⟩ hs => ⟨x, h1, h2, (hs.block x (lt_of_block h3)).trans h3⟩
  refine wp_region_rel_tail 10 58 (by kernel_rfl) (by kernel_rfl) Stp [.one ?_, .one ?_, .one ?_, .one ?_, .one ?_, .one ?_, .one ?_, .one ?_, .one ?_, .rel (NewS w.heap.size)] (by kernel_rfl) rfl (by kernel_rfl) Stp.refl Stp.trans ⟨SN, trivial⟩ ?main
  case main =>
  simp only [List.take_succ_cons, List.take_zero, List.drop_succ_cons, List.drop_zero]
  iterate 4
    refine wpR_one (A' := ?_) Stp.refl (by rfl) _ rfl 58 (by rfl) (by rfl) ?_ ?_ ?_
    rotate_left 1
    · simp only [Act.put, List.setIfInBounds_toArray, List.set_cons_zero, List.set_cons_succ]; rfl
    · intro w1 hs hf K hK
      go_big_quiet_op
      first
        | go_big_quiet_on
        | (refine ⟨_, fun _ _ => rfl, ?_⟩; go_big_quiet_on)
      rfl
  refine wpR_one (A' := ?_) Stp.refl (by rfl) _ rfl 58 (by rfl) (by rfl) ?_ ?_ ?_
  rotate_left 1
  · simp only [Act.put, List.setIfInBounds_toArray, List.set_cons_zero, List.set_cons_succ]; rfl
  · intro w1 hs hf K hK
    refine cls_load_cell 3 (.tmp 17) rfl ⟨c, 6, none⟩ rfl (.int .i64 1) (fun w h => by simp [go_sem, h]) (fun w2 h2 => (Turn.of_below (Stp.trans _ _ _ hs h2)).cell (show w.drew.cell? _ = _ from c6) (fun h => h)) ?_
    refine hK _ ?_
    simp only [Act.put, List.setIfInBounds_toArray, List.set_cons_zero, List.set_cons_succ]
    rfl
  iterate 3
    refine wpR_one (A' := ?_) Stp.refl (by rfl) _ rfl 58 (by rfl) (by rfl) ?_ ?_ ?_
    rotate_left 1
    · simp only [Act.put, List.setIfInBounds_toArray, List.set_cons_zero, List.set_cons_succ]; rfl
    · intro w1 hs hf K hK
      go_big_quiet_op
      first
        | go_big_quiet_on
        | (refine ⟨_, fun _ _ => rfl, ?_⟩; go_big_quiet_on)
      rfl
  refine wpR_one (A' := ?_) Stp.refl (by rfl) _ rfl 58 (by rfl) (by rfl) ?_ ?_ ?_
  rotate_left 1
  · simp only [Act.put, List.setIfInBounds_toArray, List.set_cons_zero, List.set_cons_succ]; rfl
  · intro w1 hs hf_ K hK
    refine cls_load 47 (.tmp 21) rfl c 4 rfl [.int .i64 (hf : Int), .int .i64 hf] _ (fun w2 h2 => HR.out w2 (show Stp w w2 from by have h := Stp.trans _ _ _ hs h2; exact ⟨h.os, h.tape, h.output, h.size, h.block⟩)) Tryd.underlying47 rfl KS.out ?_
    refine hK _ ?_
    simp only [Act.put, List.setIfInBounds_toArray, List.set_cons_zero, List.set_cons_succ]
    rfl
  refine wpR_rel (A' := ?_) (by rfl) ?_ ?_ ?_
  · intro w1 hs hf_
    refine does_run (u := .pointer (some ⟨w1.heap.size, 0, none⟩)) (w' := w1.alloc (.cells #[.int .i64 0, .int .i64 0] 47)) (by kernel_rfl) ?_
    exact ⟨⟨_, hs.size, rfl, heap_alloc_new _ _⟩, (Below.refl _ _).alloc (Nat.le_refl _) _⟩
  rotate_left 1
  · intro x
    simp only [Act.put, List.setIfInBounds_toArray, List.set_cons_zero, List.set_cons_succ]; rfl
  intro x3
  intro w9 hs hf9
  obtain ⟨⟨x, hxw, hx3, hhx⟩, -⟩ := hf9
  have hx3 : x3 = .pointer (some ⟨x, 0, none⟩) := hx3
  subst hx3
  have T9 := Lib.hid (show Turn (fun _ => False) w w9 from Turn.of_below (show Below w.heap.size w w9 from ⟨hs.os, hs.tape, hs.output, hs.size, hs.block⟩))
  have XW := Lib.hid (show w.heap.size ≤ x from hxw)
  have HHX := Lib.hid (show w9.heap[x]? = some (.cells #[.int .i64 0, .int .i64 0] 47 (0, 0)) from hhx)
  clear hs hhx hxw SN c0 c1 c2 c3 c4 c5 c6 c7
  obtain ⟨w1, hw1⟩ : ∃ w1, w1 = w9.setRow x #[.int .i64 (hf : Int), .int .i64 hf] := ⟨_, rfl⟩
  have HXW := XW.out
  have t1 : Turn (fun _ => False) w w1 := by rw [hw1]; exact T9.out.setRow x _ (fun h => by omega)
  have X1 := Lib.hid (show w1.heap[x]? = some (.cells #[.int .i64 (hf : Int), .int .i64 hf] 47 (0, 0)) by rw [hw1]; exact setRow_heap _ _ _ _ _ _ HHX.out)
  have B1 := Lib.hid (BX.out.turn t1 (fun h => h))
  have L1 := Lib.hid (LX.out.quiet t1)
  have HXD := Lib.hid (show ¬ D x from fun h => by have := HLT.out x h; omega)
  have T1 := Lib.hid t1
  have hxc : x ≠ c := by have := HCW.out; omega
  have OP := openO_any w1.drew g n hf hf t d D (L1.out.quiet ((Turn.refl _ _).drew)) hoff hn (by have := HHF.out; omega) HT.out (by have := HW.out; omega)
  rw [show (((hf : Nat) : Int)) = (hf : Int) by rfl] at OP
  have hne := HNE.out
  obtain ⟨S, hS⟩ : ∃ S, S = scanN (cutD d hf hf) t 0 := ⟨_, rfl⟩
  rw [← hS] at OP HQ HSB HSL hne
  have HNE2 := Lib.hid hne
  obtain ⟨⟨d1, e1⟩, hd1⟩ : ∃ y, y = wipeR d (hf + S.2) (hf - S.2) := ⟨_, rfl⟩
  rw [← hd1] at OP HQ
  refine wpList_store_row rfl _ _ _ rfl x #[.int .i64 (hf : Int), .int .i64 hf] rfl rfl 47 _ HHX.out KS.out rfl (by simp [Value.oneCell']) ?_
  rw [← hw1]
  clear hw1 t1 HXW HHX XW HR hS HNE hne hd1
  obtain ⟨-, q1, -, -, -, -, -, q7, -, -⟩ := B1.out.cells
  have x0 : w1.cell? ⟨x, 0, none⟩ = some (.int .i64 (hf : Int)) := by rw [cell_of_row _ _ _ _ _ _ X1.out]; rfl
  have x1 : w1.cell? ⟨x, 1, none⟩ = some (.int .i64 hf) := by rw [cell_of_row _ _ _ _ _ _ X1.out]; rfl
  by_cases he1 : e1 = 0
  rotate_left 1
  · have E1 := Lib.hid he1
    have OPD := Lib.hid (OP.mono (R' := fun r w' => ∃ D', r = .returned (.tuple #[.pointer none, .slice none 0 0, .int .i64 (e1 : Int)]) ∧ LD w' g n d1 D' ∧ (∀ k, D' k → Dn D w1.drew w' k) ∧ Turn D w1.drew w') (fun r w' h => by
      obtain ⟨D', h1, h2, h3, h4⟩ := h
      rcases h4 with ⟨h4, -⟩ | ⟨-, h4⟩
      · exact absurd h4 E1.out
      · exact ⟨D', h4, h1, h2, h3⟩))
    have d0 : ((e1 : Int) != 0) = true := by rw [bne_iff_ne]; omega
    clear he1 OP
    go_upto_region 4 with fail
    go_region_held3 (fun w' => w'.cell? ⟨c, 1, none⟩ = some (.pointer (some ⟨g, 0, none⟩)) ∧ w'.cell? ⟨x, 0, none⟩ = some (.int .i64 (hf : Int)) ∧ w'.cell? ⟨x, 1, none⟩ = some (.int .i64 hf) ∧ w'.cell? ⟨c, 7, none⟩ = some (.int .i64 (t : Int)))
      (first | exact ⟨q1, x0, x1, q7⟩ | exact ⟨k1, y0, y1, k7⟩)
      (first
        | (go_at_call 53; refine OPD.out.mono ?_; clear OPD; rintro r w3 ⟨D3, rfl, l3, hD3, t3⟩; have L3 := Lib.hid l3; have HD3 := Lib.hid hD3; have T3 := Lib.hid t3; have k1 := t3.cell (show w1.drew.cell? _ = _ from q1) hcD; have k7 := t3.cell (show w1.drew.cell? _ = _ from q7) hcD; have y0 := t3.cell (show w1.drew.cell? _ = _ from x0) HXD.out; have y1 := t3.cell (show w1.drew.cell? _ = _ from x1) HXD.out; clear l3 hD3 t3))
    have TT := Lib.hid (show Turn D w w3 from ((T1.out.drew).mono (fun _ _ h => h.elim)).trans T3.out (fun _ _ h => h))
    have DD := Lib.hid (show ∀ k, D3 k → Dn D w w3 k from fun k hk => (HD3.out k hk).elim .inl (fun h => .inr ⟨Nat.le_trans T1.out.size h.1, h.2⟩))
    clear k1 k7 y0 y1 q1 q7 x0 x1
    go_wp2
    go_ret
    rw [HQ.out]
    exact ⟨D3, DD.out, rfl, .inr ⟨E1.out, L3.out, TT.out⟩⟩
  have E1 := Lib.hid he1
  have OPD := Lib.hid (OP.mono (R' := fun r w' => ∃ s A cA D' E vs, r = .returned (.tuple #[.pointer (some ⟨s, 0, none⟩), .slice A S.1.length cA, .int .i64 0]) ∧ Ats SBp w' g s n d1 ⟨hf + S.2, hf + hf, t, S.1.length, false⟩ D' E ∧ w'.ownsRow w1.drew.heap.size 36 1 (.slice A S.1.length cA) S.1.length vs ∧ TxtV w' (fun k => k < w1.drew.heap.size ∨ D' k ∨ E k ∨ (Value.slice A S.1.length cA).ownBlock = some k) S.1 vs ∧ (∀ k, (Value.slice A S.1.length cA).ownBlock = some k → ¬ D' k ∧ ¬ E k) ∧ (∀ k, D' k → Dn D w1.drew w' k) ∧ (∀ k, E k → w1.drew.heap.size ≤ k) ∧ Turn D w1.drew w') (fun r w' h => by
    obtain ⟨D', h1, h2, h3, h4⟩ := h
    rcases h4 with ⟨-, s, A, cA, E, h4, h5, ⟨vs, h6, h7, h8⟩, -, -, h9⟩ | ⟨h4, -⟩
    · exact ⟨s, A, cA, D', E, vs, h4, h5, h6, h7, h8, h2, h9, h3⟩
    · exact absurd he1 h4))
  clear he1 OP
  go_upto_region 4 with fail
  go_region_held3 (fun w' => w'.cell? ⟨c, 1, none⟩ = some (.pointer (some ⟨g, 0, none⟩)) ∧ w'.cell? ⟨x, 0, none⟩ = some (.int .i64 (hf : Int)) ∧ w'.cell? ⟨x, 1, none⟩ = some (.int .i64 hf) ∧ w'.cell? ⟨c, 7, none⟩ = some (.int .i64 (t : Int)))
    (first | exact ⟨q1, x0, x1, q7⟩ | exact ⟨k1, y0, y1, k7⟩)
    (first
      | (go_at_call 53; refine OPD.out.mono ?_; clear OPD; rintro r w3 ⟨s, A, cA, D3, E3, vs, rfl, at3, ow3, tx3, hno3, hD3, hE3, t3⟩; have AT3 := Lib.hid at3; have OW3 := Lib.hid ow3; have TX3 := Lib.hid tx3; have HNO := Lib.hid hno3; have HD3 := Lib.hid hD3; have HE3 := Lib.hid hE3; have T3 := Lib.hid t3; have k1 := t3.cell (show w1.drew.cell? _ = _ from q1) hcD; have k7 := t3.cell (show w1.drew.cell? _ = _ from q7) hcD; have y0 := t3.cell (show w1.drew.cell? _ = _ from x0) HXD.out; have y1 := t3.cell (show w1.drew.cell? _ = _ from x1) HXD.out; clear at3 ow3 tx3 hno3 hD3 hE3 t3))
  clear k1 k7 y0 y1 q1 q7 x0 x1
  have TT := Lib.hid (show Turn D w w3 from ((T1.out.drew).mono (fun _ _ h => h.elim)).trans T3.out (fun _ _ h => h))
  have DD := Lib.hid (show ∀ k, D3 k → Dn D w w3 k from fun k hk => (HD3.out k hk).elim .inl (fun h => .inr ⟨Nat.le_trans T1.out.size h.1, h.2⟩))
  have B3 := Lib.hid (show KBox w3 c PS (.pointer (some ⟨g, 0, none⟩)) hf 1 t H0 N0 from KBox.turn (w := w1.drew) B1.out T3.out hcD)
  obtain ⟨y, ys, hys⟩ := HNE2.out
  have hvl := TX3.out.1
  obtain ⟨Ay, cy, hv0, hcy, hAy, sly⟩ := TX3.out.2 0 y (by rw [hys]; rfl)
  obtain ⟨A', cA', e, hsl3, -, hcA, hAA⟩ := own_sl OW3.out
  injection e with ea eb ec
  subst ea ec
  obtain ⟨ad, rfl, hadb, hadc⟩ := hsl3 0 _ hv0
  rw [addr_zero0] at hadc
  obtain ⟨q0, q1, q2, q3, q4, q5, q6, q7, q8, q9⟩ := B3.out.cells
  have z0 := B3.out.frozen 0
  have z8 := B3.out.frozen 8
  have z9 := B3.out.frozen 9
  obtain ⟨ln, hln⟩ : ∃ ln, ln = S.1.length := ⟨_, rfl⟩
  have hl1 : 0 < ln := by rw [hln, hys]; exact Nat.succ_pos _
  have hl1i : (0 : Int) < (ln : Int) := by omega
  rw [← hln] at hcA OW3 AT3 HNO TX3
  have HLN := Lib.hid hln
  obtain ⟨A3, hA3⟩ : ∃ x, x = cutA (some ad) cA 1 := ⟨_, rfl⟩
  obtain ⟨c3, hc3⟩ : ∃ x, x = cA - 1 := ⟨_, rfl⟩
  have SLI : ∀ w, (Instr.slice 31 (.slice (some ad) ln cA) (some (.int .i64 1)) none none).run Tryd.prog w = .ok (.slice A3 (ln - 1) c3) w := fun w => by
    rw [run_slice_l (P := Tryd.prog) w 31 (some ad) ln cA (by kernel_rfl) .i64 1 (by omega) (by omega)]
    rw [show Tryd.prog.elem 31 = 36 by kernel_rfl, size_sl]
    simp only [Result.andThen, sliced, hA3, hc3, cutA, Nat.mul_one]
    rfl
  have HA3 := Lib.hid hA3
  have HC3 := Lib.hid hc3
  clear hA3 hc3
  rw [← hln]
  clear hln
  go_upto_region 7 with fail
  go_region
  go_wp2
  go_ret
  rw [HQ.out]
  obtain ⟨w4, hw4⟩ : ∃ w4, w4 = (((w3.setCell ⟨c, 0, none⟩ (.pointer (some ⟨s, 0, none⟩))).setCell ⟨c, 8, none⟩ (.slice Ay y.length cy)).setCell ⟨c, 9, none⟩ (.slice A3 (ln - 1) c3)).drew := ⟨_, rfl⟩
  have T4 : Turn (fun k => k = c) w3 w4 := by
    rw [hw4]
    exact ((((Turn.refl (fun k => k = c) w3).setCell ⟨c, 0, none⟩ _ (fun _ => rfl)).setCell ⟨c, 8, none⟩ _ (fun _ => rfl)).setCell ⟨c, 9, none⟩ _ (fun _ => rfl)).drew
  have B4 : KBox w4 c (.pointer (some ⟨s, 0, none⟩)) (.pointer (some ⟨g, 0, none⟩)) hf 1 t (.slice Ay y.length cy) (.slice A3 (ln - 1) c3) := by
    rw [hw4]
    exact ((B3.out.set0 (.pointer (some ⟨s, 0, none⟩))).set8 (.slice Ay y.length cy)).set9 (.slice A3 (ln - 1) c3)
  rw [← hw4]
  clear hw4 z0 z8 z9 q0 q1 q2 q3 q4 q5 q6 q7 q8 q9
  have hsE : ∀ k, E3 k ↔ k = s := AT3.out.sb.2.1
  have hsW : w1.heap.size ≤ s := HE3.out s ((hsE s).2 rfl)
  have h1sz := T1.out.size
  have hcW := HCW.out
  have hsz := T4.size
  have hD3c : ¬ D3 c := fun h => (DD.out c h).elim hcD (fun h => by have := h.1; omega)
  have hD3s : ¬ D3 s := AT3.out.dj s ((hsE s).2 rfl)
  have hrow := OW3.out.lt ad.block rfl
  have hr1 : w1.heap.size ≤ ad.block := hrow.1
  have hD3r := HNO.out ad.block rfl
  have hrs : ad.block ≠ s := fun e => hD3r.2 ((hsE _).2 e)
  have hrc : ad.block ≠ c := by omega
  have hob : (Value.slice A3 (ln - 1) c3).ownBlock = some ad.block := by rw [HA3.out]; exact cut_block ad cA _ _
  have hs3 := AT3.out.lt s ((hsE s).2 rfl)
  obtain ⟨o, hoO⟩ := ownsO_tail (own_turn T4 OW3.out (fun q hq e => by injection hq with hq; have hq : ad.block = q := hq; have e : q = c := e; omega)) hl1
  rw [← HA3.out, ← HC3.out] at hoO
  have hN : ∀ j, j < w3.heap.size → (D3 j ∨ (j = s ∨ j = c ∨ j = ad.block)) → (j < w1.drew.heap.size ∨ D3 j ∨ E3 j ∨ (Value.slice (some ad) ln cA).ownBlock = some j) := fun j hj h => by
    rcases h with h | h | h | h
    · exact .inr (.inl h)
    · exact .inr (.inr (.inl ((hsE j).2 h)))
    · left; show j < w1.heap.size; omega
    · right; right; right; show some ad.block = some j; rw [h]
  have hSc : ∀ j, j = c → (j < w1.drew.heap.size ∨ D3 j ∨ E3 j ∨ (Value.slice (some ad) ln cA).ownBlock = some j) := fun j h => by left; show j < w1.heap.size; omega
  have hlnS := HLN.out
  obtain ⟨hsl1, hsl2⟩ := HSL.out
  refine ⟨D3, fun j hj => (DD.out j hj).elim .inl (fun h => .inr ⟨h.1, Nat.lt_of_lt_of_le h.2 hsz⟩), (by rw [E1.out]; rfl), .inl ⟨E1.out, fun j => j = s ∨ j = c ∨ j = ad.block, ⟨AT3.out.ld.keep T4 (fun j hj e => by have e : j = c := e; subst e; exact hD3c hj) (fun j e => by have e : j = c := e; subst e; exact hc2), ⟨by show 1 ≤ 1; omega, HT.out, ?_, ?_, ?_, fun z hz => HSB.out z hz⟩, ⟨s, y, Ay, cy, .slice A3 (ln - 1) c3, o, vs.tail, ?_, ?_, ?_, ?_, hAy, hcy, ?_, ?_, by omega, .inl rfl, fun j hj => ?_⟩, .inr (.inl rfl), ?_, ?_, ?_⟩, ?_, ?_⟩⟩
  · show hf + S.2 ≤ 1 * (n / 2) + n / 2
    rw [← HHF.out]; omega
  · show 1 ≤ S.1.length
    rw [← hlnS]; exact hl1
  · show S.1.length ≤ 1000000
    have := HHF.out
    omega
  · have h := B4
    rw [HHF.out] at h
    exact h
  · obtain ⟨h1, -, h3⟩ := sbp_keep AT3.out.sb T4 (fun k hk e => by have h1 := (hsE k).1 hk; have e : k = c := e; omega)
    refine ⟨h1, fun k => Iff.rfl, ?_⟩
    have e : (Scr.mk (hf + S.2) (hf + hf) t ln false) = (Ck.mk 1 t S.1 (hf + S.2)).scr (n / 2) := by
      unfold Ck.scr Ck.fin
      show _ = Scr.mk (hf + S.2) (1 * (n / 2) + n / 2) t S.1.length false
      rw [← HHF.out, ← hlnS, show 1 * hf = hf by omega]
    rw [← e]; exact h3
  · show S.1 = y :: S.1.tail
    rw [hys]; rfl
  · exact sly.turn T4 hSc hN
  · show ownsO w4 2 _ o _ S.1.tail.length vs.tail
    rw [List.length_tail, ← hlnS]
    exact ownsO_base hoO (by have := L1.out.glob.1; show 2 ≤ w1.heap.size; omega)
  · show TxtV w4 _ S.1.tail vs.tail
    exact (txt_tail TX3.out).turn T4 hSc hN
  · rw [hob] at hj
    injection hj with hj
    subst hj
    exact ⟨.inr (.inr rfl), hrs, hrc⟩
  · intro j hj
    have := L1.out.glob.1
    rcases hj with h | h | h
    · omega
    · omega
    · omega
  · intro j hj
    rcases hj with h | h | h
    · rw [h]; exact hD3s
    · rw [h]; exact hD3c
    · rw [h]; exact hD3r.1
  · intro j hj
    rcases hj with h | h | h
    · omega
    · have := B3.out.lt; omega
    · have := hrow.2; omega
  · intro j hj
    rcases hj with h | h | h
    · exact .inr ⟨by omega, by omega⟩
    · exact .inl h
    · exact .inr ⟨by omega, by have := hrow.2; omega⟩
  · exact (TT.out.mono (fun _ _ h => .inl h)).trans T4 (fun _ _ h => .inr h)
set_option maxHeartbeats 4000000 in
theorem kbegin_any (w : World) (g c n : Nat) (d : Dr) (D : Nat → Prop) (PS H0 N0 : Value) (ld : LD w g n d D) (hoff : d.off = false) (hn : n ≤ 8192) (bx : KBox w c PS (.pointer (some ⟨g, 0, none⟩)) ((n / 2 : Nat) : Int) (fnd d n).1 (fnd d n).2 H0 N0) (hcD : ¬ D c) (hc2 : 2 ≤ c) (hW : d.W.length + n / 2 + 1024 < 10000) :
    Calls Tryd.prog 33 #[.pointer (some ⟨c, 0, none⟩)] w (BPost g c n d D w) := by
  have hsp := fnd_spec d n
  obtain ⟨⟨a, t⟩, hat⟩ : ∃ x, x = fnd d n := ⟨_, rfl⟩
  rw [← hat] at bx hsp
  by_cases ht : 1 ≤ t
  · rcases hsp with h | ⟨-, ha, -⟩
    · have h : t = 0 := h
      omega
    · have ha : a ≤ 1 := ha
      rcases Nat.lt_or_ge a 1 with h1 | h1
      · obtain rfl : a = 0 := by omega
        exact kbegin0_any w g c n t d D PS H0 N0 ld hoff hn bx hcD hc2 hat.symm ht hW
      · obtain rfl : a = 1 := by omega
        exact kbegin1_any w g c n t d D PS H0 N0 ld hoff hn bx hcD hc2 hat.symm ht hW
  · obtain rfl : t = 0 := by omega
    have LY := lay_any w g c n 0 1 d D _ _ _ _ _ none 0 [] (Nat.zero_le _) ld hoff hn bx hcD hc2 (by unfold mostS; omega) hW (fun j u hu => by simp at hu) (fun _ => rfl) (Nat.le_refl _) (Nat.zero_le _)
    have hb : BPost g c n d D w = LPost g c n 0 1 d [] D w := by
      funext r w'
      unfold BPost LPost begR begK
      rw [← hat, if_pos (by show 0 < 1; omega), if_pos (by show 0 < 1; omega)]
    rw [hb]
    have LY := Lib.hid (show Calls Tryd.prog 44 #[.pointer (some ⟨c, 0, none⟩), .int .i64 0, .int .i64 1, .slice none 0 0] w (LPost g c n 0 1 d [] D w) from LY)
    obtain ⟨-, -, -, -, -, -, c6, c7, -, -⟩ := bx.cells
    have c7 : w.cell? ⟨c, 7, none⟩ = some (.int .i64 0) := c7
    clear hb bx ld hat hsp
    go_enter Tryd.func33, Tryd.ntmps33
    go_wp2_with (go_at_call 44; refine stop ?_)
    unfold Stop
    refine LY.out.mono ?_
    rintro r w2 hp
    have HP := Lib.hid hp
    obtain ⟨D', h1, rfl, h3⟩ := hp
    clear h1 h3 LY
    go_wp2
    go_ret
    have h := HP.out
    simp only [Nat.zero_mul] at h
    exact h
end
section
set_option linter.unusedVariables false
set_option linter.unusedSimpArgs false
open Go.RowKit
set_option maxRecDepth 100000
theorem kopen_nil (w : World) : Calls Tryd.prog 11 #[.pointer none] w fun r w' => r = .returned (.tuple #[.pointer none, .int .i64 1]) ∧ w' = w := by
  go_enter Tryd.func11, Tryd.ntmps11
  go_wp2
  refine bodyPost_ret (results_tmp2 rfl _ _ _) rfl ?_
  exact ⟨rfl, rfl⟩
def OPost (g n : Nat) (d : Dr) (D : Nat → Prop) (w : World) (r : Ending) (w' : World) : Prop :=
  ∃ D', (∀ j, D' j → Dn D w w' j) ∧ Turn D w w' ∧
    (((begR d n).2 = 0 ∧ ∃ c E', r = .returned (.tuple #[.pointer (some ⟨c, 0, none⟩), .int .i64 0]) ∧ KAt w' g c n (begR d n).1 (begK d n) D' E' ∧ (∀ j, E' j → w.heap.size ≤ j ∧ j < w'.heap.size))
    ∨ ((begR d n).2 ≠ 0 ∧ r = .returned (.tuple #[.pointer none, .int .i64 ((begR d n).2 : Int)]) ∧ LD w' g n (begR d n).1 D'))
set_option maxHeartbeats 8000000 in
theorem kopen_any (w : World) (g n : Nat) (d : Dr) (D : Nat → Prop) (ld : LD w g n d D) (hoff : d.off = false) (h2 : 2 ≤ n) (hn : n ≤ 8192) (hW : d.W.length + n / 2 + 1024 < 10000) :
    Calls Tryd.prog 11 #[.pointer (some ⟨g, 0, none⟩)] w (OPost g n d D w) := by
  have LN := Lib.hid ld.len
  have ON := ld.on
  rw [hoff] at ON
  have ON := Lib.hid (show Calls Tryd.prog 29 #[.pointer (some ⟨g, 0, none⟩)] w fun r w' => r = .returned (.bool true) ∧ w' = w from ON)
  obtain ⟨hf, hhf⟩ : ∃ x, x = n / 2 := ⟨_, rfl⟩
  have hq : ((n : Int)).tdiv 2 = (hf : Int) := by rw [Int.tdiv_eq_ediv_of_nonneg (by omega)]; omega
  have hq2 : (n : Int) / 2 = (hf : Int) := by omega
  obtain ⟨w1, hw1⟩ : ∃ w1, w1 = w.alloc (.cells #[.pointer none, .pointer (some ⟨g, 0, none⟩), .int .i64 0, .int .i64 hf, .int .i64 hf, .int .i64 hf, .int .i64 0, .int .i64 0, .slice none 0 0, .slice none 0 0] 50) := ⟨_, rfl⟩
  obtain ⟨c, hc⟩ : ∃ c, c = w.heap.size := ⟨_, rfl⟩
  have t1 : Turn (fun _ => False) w w1 := by rw [hw1]; exact (Turn.refl _ _).alloc _
  have B1 := Lib.hid (show KBox w1 c (.pointer none) (.pointer (some ⟨g, 0, none⟩)) hf 0 0 (.slice none 0 0) (.slice none 0 0) by rw [hw1, hc]; exact heap_alloc_new _ _)
  have L1 := Lib.hid (ld.quiet t1)
  have hcD : ¬ D c := fun h => by have := ld.lt c h; omega
  have hc2 : 2 ≤ c := by have := ld.glob.1; omega
  have FD := Lib.hid (kfind_any w1 g c n d D _ _ _ L1.out hn (by rw [← hhf]; exact B1.out) hcD hc2)
  have T1 := Lib.hid t1
  have HC := Lib.hid hc
  have HHF := Lib.hid hhf
  have HW := Lib.hid hW
  have HOFF := Lib.hid hoff
  have dn : decide ((n : Int) < 2) = false := decide_eq_false (by omega)
  have dn' : decide (n < 2) = false := decide_eq_false (by omega)
  clear ld t1 hhf hW hoff
  go_enter Tryd.func11, Tryd.ntmps11
  go_upto_region 7 with (first
    | (go_at_call 31; refine LN.out.mono ?_; rintro r w2 ⟨rfl, hw⟩; rw [hw]; clear hw)
    | (go_at_call 29; refine ON.out.mono ?_; clear ON; rintro r w2 ⟨rfl, hw⟩; rw [hw]; clear hw))
  change Code.wp _ _ _ _ (w.alloc (.cells #[.pointer none, .pointer (some ⟨g, 0, none⟩), .int .i64 0, .int .i64 hf, .int .i64 hf, .int .i64 hf, .int .i64 0, .int .i64 0, .slice none 0 0, .slice none 0 0] 50))
  rw [← hw1, ← hc]
  clear hw1 hc LN dn dn' hq hq2
  go_wp2_with (go_at_call 32; refine stop ?_)
  unfold Stop
  refine FD.out.mono ?_
  rintro r w3 ⟨⟨v, rfl⟩, b3, t3⟩
  have L3 := Lib.hid (L1.out.keep t3 (fun k hk e => by have e : k = c := e; subst e; exact hcD hk) (fun k e => by have e : k = c := e; subst e; exact hc2))
  have BG := Lib.hid (kbegin_any w3 g c n d D _ _ _ L3.out HOFF.out hn b3 hcD hc2 HW.out)
  have T3 := Lib.hid t3
  clear FD b3 t3
  go_wp2_with (go_at_call 33; refine stop ?_)
  unfold Stop
  refine BG.out.mono ?_
  rintro r w4 ⟨D4, hD4, rfl, hpost⟩
  have T13 := Lib.hid (show Turn (fun _ => False) w w3 from T1.out.trans T3.out (fun k hk e => by have e : k = c := e; have := HC.out; omega))
  have DD4 := Lib.hid (show ∀ j, D4 j → Dn D w w4 j from fun j hj => (hD4 j hj).elim .inl (fun h => .inr ⟨Nat.le_trans T13.out.size h.1, h.2⟩))
  have HCW := Lib.hid (show c < w3.heap.size from Nat.lt_of_lt_of_le B1.out.lt T3.out.size)
  obtain ⟨er, her⟩ : ∃ e, e = (begR d n).2 := ⟨_, rfl⟩
  have HQ := Lib.hid (show OPost g n d D w = fun r w' => ∃ D', (∀ j, D' j → Dn D w w' j) ∧ Turn D w w' ∧
    ((er = 0 ∧ ∃ c E', r = .returned (.tuple #[.pointer (some ⟨c, 0, none⟩), .int .i64 0]) ∧ KAt w' g c n (begR d n).1 (begK d n) D' E' ∧ (∀ j, E' j → w.heap.size ≤ j ∧ j < w'.heap.size))
    ∨ (er ≠ 0 ∧ r = .returned (.tuple #[.pointer none, .int .i64 (er : Int)]) ∧ LD w' g n (begR d n).1 D')) by rw [her]; rfl)
  rw [← her] at hpost ⊢
  rcases hpost with ⟨h0, E', k4, hE4, t4⟩ | ⟨h0, l4, t4⟩
  · have d0 : ((er : Int) != 0) = false := by rw [bne_eq_false_iff_eq]; omega
    have K4 := Lib.hid k4
    have HE4 := Lib.hid hE4
    have T4 := Lib.hid t4
    have H0 := Lib.hid h0
    clear BG her h0 k4 hE4 t4 hD4
    go_wp2
    refine bodyPost_ret (results_tmp2 rfl _ _ _) rfl ?_
    rw [HQ.out]
    have hcw := HC.out
    have := T4.out.size
    have := HCW.out
    exact ⟨D4, DD4.out, (T13.out.mono (fun _ _ h => h.elim)).trans T4.out (fun k hk h => h.elim id (fun e => by omega)), .inl ⟨H0.out, c, E', rfl, K4.out, fun j hj => (HE4.out j hj).elim (fun e => by omega) (fun h => ⟨Nat.le_trans T13.out.size h.1, h.2⟩)⟩⟩
  · have d0 : ((er : Int) != 0) = true := by rw [bne_iff_ne]; omega
    have L4 := Lib.hid l4
    have T4 := Lib.hid t4
    have H0 := Lib.hid h0
    clear BG her h0 l4 t4 hD4
    go_wp2
    refine bodyPost_ret (results_tmp2 rfl _ _ _) rfl ?_
    rw [HQ.out]
    exact ⟨D4, DD4.out, (T13.out.mono (fun _ _ h => h.elim)).trans T4.out (fun _ _ h => h), .inr ⟨H0.out, rfl, L4.out⟩⟩
end
section
set_option linter.unusedVariables false
set_option linter.unusedSimpArgs false
open Go.RowKit
set_option maxRecDepth 100000
set_option maxHeartbeats 4000000 in
theorem khead_any (w : World) (g c n : Nat) (d : Dr) (k : Ck) (D E : Nat → Prop) (h : KAt w g c n d k D E) :
    Calls Tryd.prog 27 #[.pointer (some ⟨c, 0, none⟩)] w fun r w' => ∃ hd v, k.L = hd :: k.L.tail ∧ r = .returned v ∧ w'.ownsRow w.heap.size 5 1 v hd.length (hd.map bv) ∧ Turn (fun _ => False) w w' := by
  have hb := h.ok.b
  obtain ⟨ld, ok, ⟨s, hd, Ah, ch, NV, o, vs, bx, sb, hL1, hh, hAh, hch, ho, hv, hsc, hEs, hNE⟩, hEc, two, dj, lt⟩ := h
  have hbl : hd.length ≤ 900000 := hb hd (by rw [hL1]; exact List.mem_cons_self ..)
  obtain ⟨-, -, -, -, -, -, -, -, c8, -⟩ := bx.cells
  have CL := Lib.hid (clone_at Ah ch hd.length _ hd w hh rfl hAh hch (by omega))
  have HL1 := Lib.hid hL1
  obtain ⟨lh, hlh⟩ : ∃ l, l = hd.length := ⟨_, rfl⟩
  rw [← hlh] at CL c8
  have HLH := Lib.hid hlh
  clear hlh bx sb hL1 hh hAh hch ho hv hNE two dj lt ld ok hb
  go_enter Tryd.func27, Tryd.ntmps27
  go_wp2_with (go_at_call 40; refine stop ?_)
  unfold Stop
  refine CL.out.mono ?_
  rintro r w1 ⟨v, rfl, o1, t1⟩
  have O1 := Lib.hid o1
  have T1 := Lib.hid t1
  clear CL o1 t1
  go_wp2
  go_ret
  exact ⟨hd, v, HL1.out, rfl, by rw [← HLH.out]; exact O1.out, T1.out⟩
end
end Go.Proofs.YtajdcekkmikbcaaDoor
