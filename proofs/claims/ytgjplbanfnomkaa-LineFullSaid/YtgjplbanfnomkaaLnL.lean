/- The landed line: Copy. -/
import Derived.Test.YtgjplbanfnomkaaLnK
set_option linter.unusedVariables false
set_option linter.unusedSimpArgs false
namespace Go.Proofs.Ytgjplbanfnomkaa
open Go.RowKit
set_option maxRecDepth 100000
theorem ItV.one {w : World} {N : Nat → Prop} {l : List Itm} {cs : List Value} (h : ItV w N l cs) : ∀ u ∈ cs, u.oneCell' = true := by
  intro u hu
  obtain ⟨j, hj⟩ := List.mem_iff_getElem?.1 hu
  have hjl := (List.getElem?_eq_some_iff.1 hj).1
  have hi : j / 2 < l.length := by have := h.1; omega
  obtain ⟨-, h0, S, c, h1, -⟩ := h.2 (j / 2) _ (List.getElem?_eq_getElem hi)
  rcases Nat.mod_two_eq_zero_or_one j with e | e
  · rw [show j / 2 * 2 = j by omega, hj] at h0; injection h0 with h0; rw [h0]; rfl
  · rw [show j / 2 * 2 + 1 = j by omega, hj] at h1; injection h1 with h1; rw [h1]; rfl
theorem ItV.sub {w : World} {N : Nat → Prop} {l : List Itm} {cs : List Value} (h : ItV w N l cs) (k m : Nat) : ItV w N ((l.drop k).take m) ((cs.drop (k * 2)).take (m * 2)) := by
  refine ⟨by have := h.1; rw [List.length_take, List.length_drop, List.length_take, List.length_drop]; omega, fun i p hi => ?_⟩
  have him : i < m := by have := (List.getElem?_eq_some_iff.1 hi).1; simp at this; omega
  rw [List.getElem?_take_of_lt him, List.getElem?_drop] at hi
  obtain ⟨a, b, S, c, d, e⟩ := h.2 (k + i) p hi
  refine ⟨a, ?_, S, c, ?_, e⟩
  · rw [List.getElem?_take_of_lt (by omega), List.getElem?_drop, show k * 2 + i * 2 = (k + i) * 2 by omega]; exact b
  · rw [List.getElem?_take_of_lt (by omega), List.getElem?_drop, show k * 2 + (i * 2 + 1) = (k + i) * 2 + 1 by omega]; exact d
theorem ItV.front {w : World} {N : Nat → Prop} {l : List Itm} {cs : List Value} (h : ItV w N l cs) (m : Nat) : ItV w N (l.take m) (cs.take (m * 2)) := by
  have := h.sub 0 m
  simpa using this
theorem ItV.back {w : World} {N : Nat → Prop} {l : List Itm} {cs : List Value} (h : ItV w N l cs) (k : Nat) : ItV w N (l.drop k) (cs.drop (k * 2)) := by
  have := h.sub k l.length
  have hl := h.1
  rw [List.take_of_length_le (by rw [List.length_drop]; omega), List.take_of_length_le (by rw [List.length_drop]; omega)] at this
  exact this
theorem ItV.app {w : World} {N : Nat → Prop} {l m : List Itm} {cs ds : List Value} (h : ItV w N l cs) (k : ItV w N m ds) : ItV w N (l ++ m) (cs ++ ds) := by
  refine ⟨by rw [List.length_append, List.length_append, h.1, k.1]; omega, fun i p hi => ?_⟩
  have hl := h.1
  by_cases hlt : i < l.length
  · rw [List.getElem?_append_left hlt] at hi
    obtain ⟨a, b, S, c, d, e⟩ := h.2 i p hi
    exact ⟨a, by rw [List.getElem?_append_left (by omega)]; exact b, S, c, by rw [List.getElem?_append_left (by omega)]; exact d, e⟩
  · rw [List.getElem?_append_right (by omega)] at hi
    obtain ⟨a, b, S, c, d, e⟩ := k.2 _ p hi
    exact ⟨a, by rw [List.getElem?_append_right (by omega), hl, show i * 2 - l.length * 2 = (i - l.length) * 2 by omega]; exact b, S, c, by rw [List.getElem?_append_right (by omega), hl, show i * 2 + 1 - l.length * 2 = (i - l.length) * 2 + 1 by omega]; exact d, e⟩
theorem row_cells {w : World} {B n c : Nat} {A : Option Addr} {cs : List Value} (h : w.ownsRow B 36 2 (.slice A n c) n cs) {b : Nat} (hA : A = some ⟨b, 0, none⟩) : ∀ j u, cs[j]? = some u → w.cell? ⟨b, j, none⟩ = some u := fun j u hu => by
  rw [hA] at h
  have := h.cells (g := b) rfl j u hu
  rwa [Addr.add_lit, Nat.zero_add] at this
theorem row_front {w : World} {B n c m : Nat} {A : Option Addr} {cs : List Value} (h : w.ownsRow B 36 2 (.slice A n c) n cs) (hm : m ≤ n) : w.ownsRow B 36 2 (.slice A m c) m (cs.take (m * 2)) := by
  obtain ⟨h1, h2⟩ := h
  refine ⟨by rw [List.length_take]; omega, ?_⟩
  rcases h2 with ⟨e, h0⟩ | ⟨g, cap, cur, e, hB, hg, hn, hc, hs, ht⟩
  · injection e with e1 e2 e3
    exact .inl ⟨by rw [e1, e3, show m = 0 by omega], by omega⟩
  · injection e with e1 e2 e3
    exact .inr ⟨g, cap, cur, by rw [e1, e3], hB, hg, by omega, hc, hs, by rw [← ht, List.take_take, Nat.min_eq_left (by omega)]⟩
theorem row_empty (w : World) : (w.alloc (.cells ([] : List Value).toArray 36)).ownsRow w.heap.size 36 2 (.slice (some ⟨w.heap.size, 0, none⟩) 0 0) 0 [] :=
  ⟨rfl, .inr ⟨w.heap.size, 0, #[], rfl, Nat.le_refl _, heap_alloc_new _ _, Nat.le_refl _, Nat.zero_le _, rfl, rfl⟩⟩
set_option maxHeartbeats 4000000 in
theorem lclone_any (A : Option Addr) (n c : Nat) (l : List Itm) (cs : List Value) (N : Nat → Prop) (w : World) (hv : ItV w N l cs) (hn : l.length = n) (hm : n ≤ 1000000) (ho : w.ownsRow 0 36 2 (.slice A n c) n cs) :
    Calls Try.prog 46 #[.slice A n c] w fun r w' => ∃ v', r = .returned v' ∧ w'.ownsRow w.heap.size 36 2 v' n cs ∧ Turn (fun _ => False) w w' := by
  obtain ⟨i0, hi, hz0, hz1, hz2⟩ := info_parts it_info
  obtain ⟨A', c', e, hc, hcm, hA, hA2⟩ := row_slice ho
  injection e with e1 e2 e3
  subst e1 e3
  have hlen : cs.length = n * 2 := by rw [hv.1, hn]
  rcases hA2 with rfl | ⟨b, rfl, -, -⟩
  · obtain rfl := hA rfl
    obtain rfl : n = 0 := by omega
    obtain rfl : cs = [] := List.eq_nil_of_length_eq_zero (by omega)
    have heq : ∀ w, (binOp BinOp.eql 27 (.slice none 0 0) (.slice none 0 0)).run Try.prog w = .ok (.bool true) w := fun w => by kernel_rfl
    clear ho hv hn
    go_enter Try.func46, Try.ntmps46
    go_wp2
    go_ret
    exact ⟨_, rfl, World.ownsRow_nil _ _ _ _, Turn.refl _ _⟩
  · have HC := Lib.hid (row_cells ho rfl)
    have HONE := Lib.hid hv.one
    have HLEN := Lib.hid hlen
    have heq : ∀ w, (binOp BinOp.eql 27 (.slice (some ⟨b, 0, none⟩) n c) (.slice none 0 0)).run Try.prog w = .ok (.bool false) w := fun w => by kernel_rfl
    clear ho hv hn hlen hA
    go_enter Try.func46, Try.ntmps46
    go_upto_region 3 with fail
    go_step
    iterate 6 go_step
    have ho := row_empty w
    have hb1 : Below w.heap.size w (w.alloc (.cells ([] : List Value).toArray 36)) := (Below.refl _ _).alloc (Nat.le_refl _) _
    refine wpList_append_own _ (o := ⟨some 7, _, _, _, _, _⟩) rfl _ _ 27 rfl w.heap.size 36 i0 (.agg #[.int .i64 0, .slice none 0 0]) 2 32 Try.underlying27 hi hz0 hz1 hz2 rfl (by decide) _ 0 _ rfl ho ⟨b, 0, none⟩ n c cs rfl HLEN.out ?_ HONE.out ?_ ?_ ?_ ?_
    · intro j u hu
      rw [Addr.add_lit, Nat.zero_add]
      have h1 := HC.out j u hu
      exact (hb1.cell (World.block_lt_of_cell? w _ h1)).trans h1
    · unfold maxLen; omega
    · omega
    · simp
    intro v' w' hown hgr _
    go_wp2
    go_ret
    refine ⟨_, rfl, by simpa using hown, ((Turn.refl _ _).alloc _).grown hgr (fun i hi e => ?_)⟩
    injection e with e; simp at e; omega
def YPost (x : Ln) (w : World) (r : Ending) (w' : World) : Prop := ∃ g v, r = .returned (.pointer (some ⟨g, 0, none⟩)) ∧ (∀ k, Ow g v k → w.heap.size ≤ k) ∧ Lat w' g v x ∧ Turn (fun _ => False) w w'
set_option maxHeartbeats 8000000 in
theorem lcopy_any (g : Nat) (v : Value) (x : Ln) (w : World) (h : Lat w g v x) : Calls Try.prog 19 #[.pointer (some ⟨g, 0, none⟩)] w (YPost x w) := by
  obtain ⟨cs, hcv, hco⟩ := h.o
  obtain ⟨A, c, eV, hc, hcm, hA, -⟩ := row_slice hco
  obtain ⟨c0, c1, c2⟩ := h.cells
  obtain ⟨n, hn⟩ : ∃ n, n = x.l.length := ⟨_, rfl⟩
  obtain ⟨wr, hwr⟩ : ∃ wr, wr = w := ⟨_, rfl⟩
  have hn4 : n ≤ 4096 := by have := h.ok.n; omega
  rw [← hn] at eV hco hc
  subst eV
  have HX := Lib.hid (show x = ⟨x.b, x.t, x.l⟩ from rfl)
  have C0 := Lib.hid c0
  have C1 := Lib.hid c1
  have C2 := Lib.hid c2
  have HCV := Lib.hid hcv
  have HCO := Lib.hid hco
  have HOK := Lib.hid h.ok
  have HN := Lib.hid hn
  have HWR := Lib.hid (show Turn (fun _ => False) w wr by rw [hwr]; exact Turn.refl _ _)
  clear h hcv hco hn c0 c1 c2 hA
  go_enter Try.func19, Try.ntmps19
  go_upto_region 3 with fail
  conv => { arg 5; rw [← hwr] }
  clear hwr
  have HSZ := Lib.hid (show w.heap.size ≤ wr.heap.size from HWR.out.size)
  have HWS := Lib.hid (fun (w' : World) (k : Stp wr.drew w') => show Turn (fun _ => False) wr w' from Turn.of_below (stp_start k (Below.refl _ _)))
  refine wp_region_rel_tail 13 20 (by kernel_rfl) (by kernel_rfl) Stp [.one ?_, .one ?_, .one ?_, .one ?_, .one ?_, .one ?_, .one ?_, .one ?_, .one ?_, .one ?_, .one ?_, .one ?_, .rel (fun v w => w.ownsRow wr.heap.size 36 2 v n cs)] (by kernel_rfl) rfl (by kernel_rfl) Stp.refl Stp.trans ⟨fun v w w' h1 h2 => own_turn2 (Turn.of_below h2) h1 (fun _ _ h => h), trivial⟩ ?main
  case main =>
  simp only [List.take_succ_cons, List.take_zero, List.drop_succ_cons, List.drop_zero]
  iterate 3
    refine wpR_one (A' := ?_) Stp.refl (by rfl) _ rfl 20 (by rfl) (by rfl) ?_ ?_ ?_
    rotate_left 1
    · simp only [Act.put, List.setIfInBounds_toArray, List.set_cons_zero, List.set_cons_succ]; rfl
    · intro w1 hs hf K hK
      go_big_quiet_op
      first
        | go_big_quiet_on
        | (refine ⟨_, fun _ _ => rfl, ?_⟩; go_big_quiet_on)
      rfl
  refine wpR_one (A' := ?_) Stp.refl (by rfl) _ rfl 20 (by rfl) (by rfl) ?_ ?_ ?_
  rotate_left 1
  · simp only [Act.put, List.setIfInBounds_toArray, List.set_cons_zero, List.set_cons_succ]; rfl
  · intro w1 hs hf K hK
    refine cls_load_cell 3 (.tmp 7) rfl ⟨g, 0, none⟩ rfl (.int .i64 x.b) (fun w h => by simp [go_sem, h]) (fun w2 h2 => ((HWR.out.trans (HWS.out w2 (Stp.trans _ _ _ hs h2)) (fun _ _ h => h)).cell C0.out (fun h => h))) ?_
    refine hK _ ?_
    simp only [Act.put, List.setIfInBounds_toArray, List.set_cons_zero, List.set_cons_succ]
    rfl
  iterate 3
    refine wpR_one (A' := ?_) Stp.refl (by rfl) _ rfl 20 (by rfl) (by rfl) ?_ ?_ ?_
    rotate_left 1
    · simp only [Act.put, List.setIfInBounds_toArray, List.set_cons_zero, List.set_cons_succ]; rfl
    · intro w1 hs hf K hK
      go_big_quiet_op
      first
        | go_big_quiet_on
        | (refine ⟨_, fun _ _ => rfl, ?_⟩; go_big_quiet_on)
      rfl
  refine wpR_one (A' := ?_) Stp.refl (by rfl) _ rfl 20 (by rfl) (by rfl) ?_ ?_ ?_
  rotate_left 1
  · simp only [Act.put, List.setIfInBounds_toArray, List.set_cons_zero, List.set_cons_succ]; rfl
  · intro w1 hs hf K hK
    refine cls_load_cell 3 (.tmp 11) rfl ⟨g, 1, none⟩ rfl (.int .i64 x.t) (fun w h => by simp [go_sem, h]) (fun w2 h2 => ((HWR.out.trans (HWS.out w2 (Stp.trans _ _ _ hs h2)) (fun _ _ h => h)).cell C1.out (fun h => h))) ?_
    refine hK _ ?_
    simp only [Act.put, List.setIfInBounds_toArray, List.set_cons_zero, List.set_cons_succ]
    rfl
  iterate 3
    refine wpR_one (A' := ?_) Stp.refl (by rfl) _ rfl 20 (by rfl) (by rfl) ?_ ?_ ?_
    rotate_left 1
    · simp only [Act.put, List.setIfInBounds_toArray, List.set_cons_zero, List.set_cons_succ]; rfl
    · intro w1 hs hf K hK
      go_big_quiet_op
      first
        | go_big_quiet_on
        | (refine ⟨_, fun _ _ => rfl, ?_⟩; go_big_quiet_on)
      rfl
  refine wpR_one (A' := ?_) Stp.refl (by rfl) _ rfl 20 (by rfl) (by rfl) ?_ ?_ ?_
  rotate_left 1
  · simp only [Act.put, List.setIfInBounds_toArray, List.set_cons_zero, List.set_cons_succ]; rfl
  · intro w1 hs hf K hK
    refine cls_load_cell 27 (.tmp 15) rfl ⟨g, 2, none⟩ rfl (.slice A n c) (fun w h => by simp [go_sem, h]) (fun w2 h2 => ((HWR.out.trans (HWS.out w2 (Stp.trans _ _ _ hs h2)) (fun _ _ h => h)).cell C2.out (fun h => h))) ?_
    refine hK _ ?_
    simp only [Act.put, List.setIfInBounds_toArray, List.set_cons_zero, List.set_cons_succ]
    rfl
  refine wpR_rel (A' := ?_) (by rfl) ?_ ?_ ?_
  · intro w1 hs hf
    have hz : wr.heap.size ≤ w1.heap.size := Below.size (w := wr.drew) hs
    have tq := HWR.out.trans (HWS.out w1 hs) (fun _ _ h => h)
    refine does_call (w' := w1) (f := 46) (args := #[.slice A n c]) (by kernel_rfl) ((lclone_any A n c x.l cs _ w1 (HCV.out.turn (N' := fun _ => False) tq (fun _ h => h.elim) (fun _ _ h => h.elim)) HN.out.symm (by omega) (own_turn2 tq HCO.out (fun _ _ h => h))).mono ?_)
    rintro e w3 ⟨v, rfl, ho, h3⟩
    exact ⟨_, rfl, own_lessN ho hz, turn_stp' h3⟩
  rotate_left 1
  · intro x
    simp only [Act.put, List.setIfInBounds_toArray, List.set_cons_zero, List.set_cons_succ]; rfl
  intro x17
  intro w9 hs9 hf9
  have T9 := Lib.hid (HWS.out w9 hs9)
  clear hs9 HWS
  obtain ⟨h17, -⟩ := hf9
  have HO := Lib.hid h17
  have HT := Lib.hid (HWR.out.trans T9.out (fun _ _ h => h))
  obtain ⟨A7, c7, rfl, -⟩ := row_slice h17
  clear h17 T9 HWR
  go_wp2
  go_ret
  have tt : Turn (fun _ => False) w9 (w9.alloc (.cells #[.int .i64 x.b, .int .i64 x.t, .slice A7 n c7] 66)) := (Turn.refl _ _).alloc _
  have hsz : w.heap.size ≤ w9.heap.size := HT.out.size
  unfold YPost
  refine ⟨w9.heap.size, .slice A7 n c7, rfl, fun k hk => ?_, ⟨heap_alloc_new _ _, ⟨cs, (HCV.out.turn (HT.out.trans tt (fun _ _ h => h)) (fun _ h => h.elim) (Nu.turn (HT.out.trans tt (fun _ _ h => h)) (fun _ h => h.elim))), ?_⟩, HOK.out⟩, HT.out.trans tt (fun _ _ h => h)⟩
  · rcases hk with e | e
    · omega
    · obtain ⟨cur, -, h1⟩ := row_block HO.out e
      have := HSZ.out
      omega
  · have := own_turn2 tt HO.out (fun _ _ h => h)
    rw [HN.out] at this ⊢
    exact own_lessN this (Nat.zero_le _)
end Go.Proofs.Ytgjplbanfnomkaa
