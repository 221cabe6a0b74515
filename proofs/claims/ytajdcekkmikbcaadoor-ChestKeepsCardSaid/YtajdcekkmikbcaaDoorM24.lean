/- Merged: The landed drum: now, a range over the library's iterator. The landed drum: Read. -/
import Derived.Test.YtajdcekkmikbcaaDoorM23
namespace Go.Proofs.YtajdcekkmikbcaaDoor
section
set_option linter.unusedVariables false
open Go.RowKit Go.Shelf
attribute [local go_sem] Oper.semAt_some
attribute [local go_sem ↓] loadAt_sec loadAt_wr
attribute [local go_sem] zero_sec zero_wr ZSec_size ZWr_size run_secLoad run_wrLoad rowOf_drew rowOf_drewN
set_option maxRecDepth 100000 in
theorem nowS_none (k : Nat) (b : Sec) (W : List (Nat × Sec)) (h : ∀ x ∈ W, x.1 ≠ k) : nowS k b W = b := by
  induction W generalizing b with
  | nil => rfl
  | cons x W ih =>
    rw [nowS_cons, if_neg (h x (List.mem_cons_self ..))]
    exact ih b fun y hy => h y (List.mem_cons_of_mem _ hy)
set_option maxRecDepth 100000 in
theorem nowS_hit (k : Nat) (b : Sec) (W : List (Nat × Sec)) (i : Nat) (hi : i < W.length) (h1 : W[i].1 = k) (h2 : ∀ j (hj : j < W.length), i < j → W[j].1 ≠ k) : nowS k b W = W[i].2 := by
  have e : W = W.take i ++ (W[i] :: W.drop (i + 1)) := by rw [← List.drop_eq_getElem_cons hi, List.take_append_drop]
  refine (congrArg (nowS k b) e).trans ?_
  rw [nowS, List.foldl_append, List.foldl_cons, if_pos h1]
  refine nowS_none k _ _ fun x hx => ?_
  obtain ⟨j, hj, rfl⟩ := List.getElem_of_mem hx
  rw [List.getElem_drop]
  exact h2 _ _ (by omega)
set_option maxRecDepth 100000 in
theorem upto_at (W : List (Nat × Sec)) (k j : Nat) (hj : j < k) : wtF W j ∈ upto (wtF W) k := List.mem_map.2 ⟨j, List.mem_range.2 hj, rfl⟩
set_option maxRecDepth 100000 in
/-- No one of them was it: it is what is sure. -/
theorem now_sure (d : Dr) (n k : Nat) (ok : d.Ok n) (h : ∀ p ∈ upto (wtF d.W) d.W.length, p.2.1.1 ≠ k) : d.now k = d.L.getD k [] := by
  refine nowS_none _ _ _ fun x hx => ?_
  obtain ⟨i, hi, rfl⟩ := List.getElem_of_mem hx
  have := h _ (upto_at d.W d.W.length (d.W.length - 1 - i) (by omega))
  have e : d.W.length - 1 - (d.W.length - 1 - i) = i := by omega
  rw [show (wtF d.W (d.W.length - 1 - i)).2 = wtAt d.W i by unfold wtF; rw [e], wtAt_eq _ (fun x hx => (ok.wait x hx).2) _ hi] at this
  exact this
set_option maxRecDepth 100000 in
/-- The k-th that came is it, none ahead of it. -/
theorem now_hit (d : Dr) (n k : Nat) (ok : d.Ok n) (pre : List Wt) (x : Wt) (m : Nat) (hm : m ≤ d.W.length) (e : pre ++ [x] = upto (wtF d.W) m) (h1 : x.2.1.1 = k) (h2 : ∀ p ∈ pre, p.2.1.1 ≠ k) : d.now k = x.2.1.2 := by
  have hw : ∀ x ∈ d.W, x.2.length = 64 := fun x hx => (ok.wait x hx).2
  have hl : pre.length + 1 = m := by have := congrArg List.length e; rw [upto_length] at this; simpa using this
  obtain rfl := hl.symm
  rw [upto_succ] at e
  obtain ⟨e1, e2⟩ := List.append_inj' e rfl
  injection e2 with e2
  have hi : d.W.length - 1 - pre.length < d.W.length := by omega
  have hx : x.2.1 = d.W[d.W.length - 1 - pre.length] := by rw [e2]; exact wtAt_eq _ hw _ hi
  rw [hx] at h1 ⊢
  refine nowS_hit k _ _ _ hi h1 fun j hj hij => ?_
  have := h2 (wtF d.W (d.W.length - 1 - j)) (by rw [e1]; exact upto_at _ _ _ (by omega))
  have e : d.W.length - 1 - (d.W.length - 1 - j) = j := by omega
  rw [show (wtF d.W (d.W.length - 1 - j)).2 = wtAt d.W j by unfold wtF; rw [e], wtAt_eq _ hw _ hj] at this
  exact this
set_option maxRecDepth 100000 in
/-- A row is stored over a block of its size. -/
theorem run_store_row (w : World) (b : Nat) (C Z : Array Value) (ty : TypeId) (hb : w.heap[b]? = some (.cells Z ty (0, 0))) (hs : C.size = Z.size) (h1 : C.all (·.oneCell') = true) : (storeCells ⟨b, 0, none⟩ C.toList).run Tryd.prog w = .ok () (w.setRow b C) := by
  rw [run_storeCells_at Tryd.prog b 0 ty C.toList 0 Z _ hb (by simp; omega) (by
    intro v hv
    rw [Array.all_eq_true_iff_forall_mem] at h1
    exact h1 v (by simpa using hv))]
  congr 2
  apply Array.ext'
  simp only [Nat.zero_add, List.take_zero, List.nil_append]
  rw [List.drop_of_length_le (by simp; omega), List.append_nil]
set_option maxRecDepth 100000 in
theorem grownBy_setRow0 (W : World) (b : Nat) (C : Array Value) : W.grownBy (W.setRow b C) (some b) :=
  ⟨rfl, rfl, rfl, by simp [World.setRow], fun k _ hk => setRow_other W b k C (fun e => hk (by rw [e]))⟩
set_option maxRecDepth 100000 in
theorem wtA_size (p : Wt) : (wtA p.2.1).size = 65 := by simp [wtA, wtV, p.2.2]
set_option maxRecDepth 100000 in
theorem wtA_one (p : Wt) : (wtA p.2.1).all (·.oneCell') = true := by
  rw [Array.all_eq_true_iff_forall_mem]
  intro u hu
  exact wt_one _ u (by simpa [wtA] using hu)
set_option maxRecDepth 100000 in
theorem row_own {β : Type} (B : Nat) (t : TypeId) (f : β → Array Value) : Own (fun s W => W.heap[B]? = some (.cells (f s) t (0, 0))) := fun s X Y row hs hg hrow => by
  refine (hg.block B (lt_of_block hs) (fun e => ?_)).trans hs
  obtain ⟨o, ho, hc⟩ := hrow B e.symm
  rw [show X.heap[B]? = _ from hs] at ho
  cases ho; cases hc
set_option maxRecDepth 100000 in
set_option maxHeartbeats 2000000 in
theorem now_any (g n : Nat) (Sv Wv : Value) (d : Dr) (D : Nat → Prop) (k : Nat) (hk : k < n) (w : World) (h : LMem w g Sv Wv d n D) :
    Calls Tryd.prog 70 #[.pointer (some ⟨g, 0, none⟩), .int .i64 (k : Int)] w fun r w' => r = .returned (.agg ((d.now k).map bv).toArray) ∧ Below w.heap.size w w' := by
  refine (callsIn_wide (n := 4)).1 ?_
  obtain ⟨CN, hCN⟩ : ∃ C, C = ((d.now k).map bv).toArray := ⟨_, rfl⟩
  rw [← hCN]
  have HCN := Lib.hid hCN
  clear hCN
  obtain ⟨f, hbx, -, -⟩ := h.box
  obtain ⟨c0, c1, c2, c3, z0, z1, z2, z3⟩ := hbx.cells
  obtain ⟨AL, cL, eL, kL⟩ := own_block h.rowL
  obtain ⟨AW, cW, eW, kW⟩ := own_block h.rowW
  have HH := Lib.hid h
  have hg := hbx.lt
  rw [eL] at c0
  rw [eW] at c1
  have HKL := Lib.hid kL
  have HKW := Lib.hid kW
  clear h hbx kL kW c2 c3 z0 z1 z2 z3
  refine callsIn_of_wp_marks Tryd.func70 rfl trivial ?_ rfl
  simp only [Tryd.ntmps70, List.size_toArray, List.length_cons, List.length_nil, Nat.reduceAdd, Nat.reduceSub, Array.replicate_succ, Array.replicate_zero, List.push_toArray, List.append_toArray, List.nil_append, List.cons_append]
  gi_wp2_with (refine ⟨trivial, ?_⟩; gi_at_call 83; refine stop ?_)
  unfold Stop
  obtain ⟨w2, hw2⟩ : ∃ w2, w2 = (w.alloc (.cells #[.int .i64 (k : Int)] 3)).alloc (.cells ZSec 92) := ⟨_, rfl⟩
  have hb0 : Boxed w2 w.heap.size 3 (.int .i64 (k : Int)) := by rw [hw2]; exact (Boxed.new w _ _).alloc _
  have hb1 : w2.heap[w.heap.size + 1]? = some (.cells ZSec 92 (0, 0)) := by
    rw [hw2]
    have := heap_alloc_new (w.alloc (.cells #[.int .i64 (k : Int)] 3)) (.cells ZSec 92)
    rwa [World.size_alloc] at this
  have hsz : w2.heap.size = w.heap.size + 1 + 1 := by rw [hw2]; simp
  have hbw : Below w.heap.size w w2 := by rw [hw2]; exact ((Below.refl _ w).alloc (Nat.le_refl _) _).alloc (by simp) _
  change CallsIn Fence.wide 3 Tryd.prog _ _ ((w.alloc (.cells #[.int .i64 (k : Int)] 3)).alloc (.cells ZSec 92)) _
  rw [← hw2]
  clear hw2
  refine (back_in Fence.wide _ trivial rfl _ _ _ _).mono ?_
  rintro e w' ⟨rfl, hw'⟩
  have hb2 : Boxed w' w2.heap.size 69 (.slice AW d.W.length cW) := by rw [hw']; exact Boxed.new w2 _ _
  have hsz' : w'.heap.size = w.heap.size + 1 + 1 + 1 := by rw [hw']; simp [hsz]
  have hbw' : Below w.heap.size w w' := by rw [hw']; exact hbw.alloc (by omega) _
  have hb0' : Boxed w' w.heap.size 3 (.int .i64 (k : Int)) := by rw [hw']; exact hb0.alloc _
  have hb1' : w'.heap[w.heap.size + 1]? = some (.cells ZSec 92 (0, 0)) := by rw [hw']; exact (Below.heap_alloc w2 _ _ (by omega)).trans hb1
  rw [hsz] at hb2 ⊢
  clear hw' hb0 hb1 hbw
  dsimp only
  gi_wp2
  have hwl : ∀ x ∈ d.W, x.2.length = 64 := fun x hx => (HH.out.ok.wait x hx).2
  obtain ⟨ZW, hZW⟩ : ∃ Z, 0 < d.W.length → ∃ g, AW = some ⟨g, 0, none⟩ ∧ g < w'.heap.size ∧ w'.heap[g]? = some (.cells (wtsV d.W ++ Z).toArray 94 (0, 0)) := by
    by_cases hp : 0 < d.W.length
    · obtain ⟨gW, Z, e, -, hh, -⟩ := HKW.out hp
      have := lt_of_block hh
      exact ⟨Z, fun _ => ⟨gW, e, by omega, (hbw'.block gW this).trans hh⟩⟩
    · exact ⟨[], fun h => absurd h hp⟩
  have HB0 := Lib.hid hb0'
  have HB1 := Lib.hid hb1'
  have HB2 := Lib.hid hb2
  have HBW := Lib.hid hbw'
  refine wpIn_rangeFunc_ownH rfl (by omega) (gf := 93) (lb := #[.pointer (some ⟨w.heap.size + 1 + 1, 0, none⟩)]) rfl trivial (enters_of Tryd.func93 (by kernel_rfl) rfl)
    (back_stops Fence.wide _ trivial rfl (by omega) (w.heap.size + 1 + 1) w'.heap.size cW AW ZW d.W hwl HH.out.few w' (by omega) (Nat.le_refl _) hb2.cell hZW) belowK_t (belowK_b (Nat.le_refl _)) (Below.refl _ _) (fun _ => rfl)
    (fun pre W => (∀ p ∈ pre, p.2.1.1 ≠ k) ∧ Below w'.heap.size w' W)
    (fun c pre W => (c = .ret ∧ ∃ pre' x, pre = pre' ++ [x] ∧ (∀ p ∈ pre', p.2.1.1 ≠ k) ∧ x.2.1.1 = k ∧ W.heap[w.heap.size + 1]? = some (.cells (x.2.1.2.map bv).toArray 92 (0, 0))) ∧ Below w.heap.size w W)
    (OwnFrom.and (ownFrom_pure _ _) (ownFrom_below (Nat.le_refl _) (Nat.le_refl _)))
    (fun c => OwnFrom.and (fun s X Y row hs hg hr => by
      obtain ⟨e, pre', x, e1, e2, e3, e4⟩ := hs
      exact ⟨e, pre', x, e1, e2, e3, row_own _ _ (fun _ : Unit => (x.2.1.2.map bv).toArray) () X Y row e4 hg (fun r e => (hr r e).2)⟩) (ownFrom_below (by omega) (by omega)))
    ⟨fun p hp => by simp at hp, Below.refl _ _⟩
    (fun x a' W => ∃ Bx, w'.heap.size ≤ Bx ∧ W.heap[Bx]? = some (.cells (wtA x.2.1) 94 (0, 0)) ∧ a' = { tmps := #[.pointer (some ⟨g, 0, none⟩), .int .i64 (k : Int), undef, .pointer (some ⟨w.heap.size, 0, none⟩), .pointer (some ⟨w.heap.size + 1, 0, none⟩), undef, .pointer (some ⟨Bx, 0, none⟩), .pointer (some ⟨g, 0, none⟩), .pointer (some ⟨g, 0, none⟩), .pointer (some ⟨g, 1, none⟩), .slice AW d.W.length cW, .func (.func 93) #[] #[.pointer (some ⟨w.heap.size + 1 + 1, 0, none⟩)], .int .i64 (x.1 : Int), .agg (wtA x.2.1), undef, undef, undef, undef, undef, undef, undef, undef, undef, undef, undef, undef, undef], defers := [] })
    (fun x a' _ X Y row hs hg hr => by obtain ⟨Bx, h1, h2, h3⟩ := hs; exact ⟨Bx, h1, row_own Bx _ (fun _ : Unit => wtA x.2.1) () X Y row h2 hg (fun r e => (hr r e).2), h3⟩)
    ?assign ?body ?done ?stop
  case assign =>
    rintro l pre x W K ⟨hp, hB⟩ hK
    have hst := run_store_new W (wtA x.2.1) ZWr 94 (by rw [wtA_size x, ZWr_size]) (wtA_one x)
    have hst' : (storeCells ⟨W.heap.size, 0, none⟩ (wtA x.2.1).toList).run Tryd.prog (W.alloc (.cells Tryd.zeroCells94 94)) = .ok () (W.alloc (.cells (wtA x.2.1) 94)) := run_store_new W (wtA x.2.1) Tryd.zeroCells94 94 (by rw [wtA_size x]; rfl) (wtA_one x)
    have hsx := wtA_size x
    have HK := Lib.hid hK
    have hnew := heap_alloc_new W (.cells (wtA x.2.1) 94)
    have hW0 := hB.size
    clear hK
    unfold Wt.vals
    obtain ⟨C, hC⟩ : ∃ C, C = wtA x.2.1 := ⟨_, rfl⟩
    rw [← hC] at hst hst' hsx hnew ⊢
    have HC := Lib.hid hC
    clear hC
    gi_wp2
    have hC := HC.out
    rw [hC] at hnew ⊢
    exact HK.out _ _ ((KeepsOthers.alloc _ _).from _) ((Below.refl _ W).alloc hW0 _) ⟨hp, hB.alloc hW0 _⟩ ⟨W.heap.size, hW0, hnew, rfl⟩
  case body =>
    rintro l pre x a' W hl hr ⟨hp, hB⟩ ⟨Bx, hBx, bX, rfl⟩ hlt
    have hWx := HBW.out.trans (hB.mono (by omega))
    have ck : W.cell? ⟨w.heap.size, 0, none⟩ = some (.int .i64 (k : Int)) := (hB.cell (p := ⟨w.heap.size, 0, none⟩) (by show w.heap.size < _; omega)).trans HB0.out.cell
    have hr1 := (hB.block (w.heap.size + 1) (by omega)).trans HB1.out
    have c0x : W.cell? ⟨Bx, 0, none⟩ = some (.int .i64 (x.2.1.1 : Int)) := by rw [cell_of_row _ _ _ _ _ _ bX]; rfl
    have r1x : rowOf W Bx 1 64 = some (x.2.1.2.map bv).toArray := by
      have := rowOf_block (xs := wtV x.2.1) bX 1 64 (by simp [wtV, x.2.2])
      rw [this]
      simp only [wtV, List.drop_succ_cons, List.drop_zero]
      rw [List.take_of_length_le (by simp [x.2.2])]
    have hs64 : (x.2.1.2.map bv).toArray.size = 64 := by simp [x.2.2]
    have hst := run_store_row W (w.heap.size + 1) (x.2.1.2.map bv).toArray ZSec 92 hr1 (by rw [hs64, ZSec_size]) (by rw [Array.all_eq_true_iff_forall_mem]; intro u hu; exact bv_one _ u (by simpa using hu))
    obtain ⟨C, hC⟩ : ∃ C, C = (x.2.1.2.map bv).toArray := ⟨_, rfl⟩
    rw [← hC] at r1x hs64 hst
    have HC := Lib.hid hC
    have HR1 := Lib.hid hr1
    have HWX := Lib.hid hWx
    have HBB := Lib.hid hB
    have HP := Lib.hid hp
    clear hC hr1 hWx hB hp
    by_cases hx : x.2.1.1 = k
    · have hxx : (x.2.1.1 : Int) = (k : Int) := by omega
      have HX := Lib.hid hx
      clear hx
      rw [hxx] at c0x
      clear hxx
      gi_wp2
      have hgr : W.grownBy (W.setRow (w.heap.size + 1) C) (some (w.heap.size + 1)) := grownBy_setRow0 _ _ _
      have hB' := HBB.out.size
      refine ⟨KeepsFrom.of_grownBy hgr (fun j e => by cases e; omega), ⟨rfl, pre, x, rfl, HP.out, HX.out, ?_⟩, ?_⟩
      · rw [← HC.out]; exact setRow_heap _ _ _ _ _ _ HR1.out
      · exact HWX.out.grown hgr (by have := HWX.out.size; omega) (fun j e => by cases e; omega)
    · have hxx : ((x.2.1.1 : Int) == (k : Int)) = false := by rw [beq_eq_false_iff_ne]; omega
      have HX := Lib.hid hx
      clear hx
      gi_wp2
      exact ⟨KeepsFrom.refl _ _, Below.refl _ _, fun p hp => (List.mem_append.1 hp).elim (HP.out p) (fun h => by rw [List.mem_singleton.1 h]; exact HX.out), HBB.out⟩
  case done =>
    rintro Dd xs W hD rfl ⟨hp, hB⟩ hK
    have hWx := HBW.out.trans (hB.mono (by omega))
    have ck : W.cell? ⟨w.heap.size, 0, none⟩ = some (.int .i64 (k : Int)) := (hB.cell (p := ⟨w.heap.size, 0, none⟩) (by show w.heap.size < _; omega)).trans HB0.out.cell
    have hr1 := (hB.block (w.heap.size + 1) (by omega)).trans HB1.out
    have hkL : k < d.L.length := by rw [HH.out.ok.len]; exact hk
    obtain ⟨gS, ZS, rfl, -, hhS, -, -, -⟩ := HKL.out (by omega)
    have hgS := lt_of_block hhS
    have d0 : W.cell? ⟨g, 0, none⟩ = some (.slice (some ⟨gS, 0, none⟩) n cL) := (hWx.cell (p := ⟨g, 0, none⟩) hg).trans c0
    have hs64 : ∀ s ∈ d.L, s.length = 64 := HH.out.ok.sec
    have hrow : rowOf W gS (k * 64) 64 = some (d.L[k].map bv).toArray := by
      have hh2 := (hWx.block gS hgS).trans hhS
      have hlen := secsV_len d.L hs64
      rw [rowOf_block hh2 (k * 64) 64 (by rw [List.length_append, hlen]; omega), secsV_split d.L k hkL, List.append_assoc]
      have h1 : (secsV (d.L.take k)).length = k * 64 := by rw [secsV_len _ fun x hx => hs64 x (List.mem_of_mem_take hx), List.length_take, Nat.min_eq_left (by omega)]
      have h2 : (d.L[k].map bv).length = 64 := by simp [hs64 _ (List.getElem_mem hkL)]
      rw [← h1, List.drop_left, List.append_assoc, ← h2, List.take_left]
    have hnow : d.now k = d.L[k] := by
      rw [now_sure d n k HH.out.ok hp, List.getD_eq_getElem?_getD, List.getElem?_eq_getElem hkL]; rfl
    have hCs : (d.L[k].map bv).toArray.size = 64 := by simp [hs64 _ (List.getElem_mem hkL)]
    have hst := run_store_row W.drew (w.heap.size + 1) (d.L[k].map bv).toArray ZSec 92 hr1 (by rw [hCs, ZSec_size]) (by rw [Array.all_eq_true_iff_forall_mem]; intro u hu; exact bv_one _ u (by simpa using hu))
    obtain ⟨C, hC⟩ : ∃ C, C = (d.L[k].map bv).toArray := ⟨_, rfl⟩
    rw [← hC] at hrow hst hCs
    have hCN := HCN.out
    rw [hnow, ← hC] at hCN
    subst hCN
    have HK := Lib.hid hK
    have HWX := Lib.hid hWx
    have HR1 := Lib.hid hr1
    have HCS := Lib.hid hCs
    have hD2 : w.heap.size + 1 < Dd := by omega
    clear hK hp hB hWx hC hnow hr1 hhS hs64
    gi_wp2
    refine wpIn_wide.2 ?_
    refine wp_region_still_tail 7 (by kernel_rfl) (by kernel_rfl) ?_
    simp only [List.take_succ_cons, List.take_zero, List.drop_succ_cons, List.drop_zero]
    change wpStill _ _ W.drew (fun a' => wpList _ _ _ _ a' W.drew) _ _
    repeat still_step
    refine wpStill_nil ?_
    go_wp2
    gi_wp2
    have hgr : W.grownBy (W.drew.setRow (w.heap.size + 1) CN) (some (w.heap.size + 1)) := by
      have h := grownBy_setRow0 W.drew (w.heap.size + 1) CN
      exact ⟨h.os, h.tape, h.output, h.size, h.block⟩
    have hK2 : (W.drew.setRow (w.heap.size + 1) CN).heap[Dd]? = some (.deferred (some [])) := (setRow_other _ _ _ _ (by omega)).trans HK.out
    refine ⟨by simp, .inl ⟨_, _, rfl, run_takeDeferred hK2, ?_⟩⟩
    have hrow2 : ((W.drew.setRow (w.heap.size + 1) CN).putObj Dd (.deferred none)).heap[w.heap.size + 1]? = some (.cells CN 92 (0, 0)) := by
      refine ((grownBy_putObj' _ Dd _).block _ ?_ (fun e => by injection e with e; omega)).trans (setRow_heap _ _ _ _ _ _ HR1.out)
      exact lt_of_block (setRow_heap _ _ _ _ _ _ HR1.out)
    refine ⟨_, results_cell_row Tryd.results70 _ _ (w.heap.size + 1) _ CN (0, 0) _ rfl hrow2 Tryd.underlying92 rfl (by rw [HCS.out]; kernel_rfl), rfl, ?_⟩
    have hw1 : Below w.heap.size w (W.drew.setRow (w.heap.size + 1) CN) := HWX.out.grown hgr (by have := HWX.out.size; omega) (fun j e => by cases e; omega)
    exact hw1.trans (belowK_b (w := w) (Nat.le_refl _) _ Dd _ _ (by omega) hK2 rfl rfl)
  case stop =>
    rintro Dd c pre W hD ⟨m, hm, rfl⟩ ⟨⟨rfl, pre', x, e1, e2, e3, e4⟩, hB⟩ hK
    have hnow := now_hit d n k HH.out.ok pre' x m hm e1.symm e3 e2
    have hCN := HCN.out
    rw [hnow] at hCN
    rw [← hCN] at e4
    have hCs : CN.size = 64 := by rw [hCN]; simp [x.2.2]
    have HCS := Lib.hid hCs
    have HK := Lib.hid hK
    have HBB := Lib.hid hB
    have H4 := Lib.hid e4
    have hD2 : w.heap.size + 1 < Dd := by omega
    clear hK hB hnow hCN e1 e2 e3 e4 hCs
    gi_wp2
    refine ⟨by simp, .inl ⟨_, _, rfl, run_takeDeferred HK.out, ?_⟩⟩
    have hrow2 : (W.putObj Dd (.deferred none)).heap[w.heap.size + 1]? = some (.cells CN 92 (0, 0)) :=
      ((grownBy_putObj' _ Dd _).block _ (lt_of_block H4.out) (fun e => by injection e with e; omega)).trans H4.out
    refine ⟨_, results_cell_row Tryd.results70 _ _ (w.heap.size + 1) _ CN (0, 0) _ rfl hrow2 Tryd.underlying92 rfl (by rw [HCS.out]; kernel_rfl), rfl, ?_⟩
    exact HBB.out.trans (belowK_b (w := w) (Nat.le_refl _) _ Dd _ _ (by omega) HK.out rfl rfl)
end
section
set_option linter.unusedVariables false
open Go.RowKit
attribute [local go_sem ↓] loadAt_sec loadAt_wr
attribute [local go_sem] zero_sec zero_wr ZSec_size ZWr_size run_secLoad run_wrLoad rowOf_drew rowOf_drewN
/-- What Read answers: none, or a copy of the sector. -/
def RdV (w w' : World) (d : Dr) (a : Int) (v : Value) : Prop :=
  (d.readE a ≠ 0 ∧ v = .slice none 0 0) ∨ (d.readE a = 0 ∧ ∃ g0, v = .slice (some ⟨g0, 0, none⟩) 64 64 ∧ w.heap.size ≤ g0 ∧ w'.heap[g0]? = some (.cells ((d.now a.toNat).map bv).toArray 92 (0, 0)))
set_option maxRecDepth 100000 in
theorem RdV.turn {S : Nat → Prop} {w w' w2 : World} {d : Dr} {a : Int} {v : Value} (h : RdV w w' d a v) (t : Turn S w' w2) (hS : ∀ k, w.heap.size ≤ k → k < w'.heap.size → ¬ S k) : RdV w w2 d a v := by
  rcases h with h | ⟨h1, g0, h2, h3, h4⟩
  · exact .inl h
  · exact .inr ⟨h1, g0, h2, h3, t.heap h4 (hS g0 h3 (lt_of_block h4))⟩
set_option maxRecDepth 100000 in
/-- As a slice: its bytes, in no block that was there. -/
theorem RdV.sl {w w' : World} {d : Dr} {a : Int} {v : Value} {n : Nat} (ok : d.Ok n) (h : RdV w w' d a v) : ∃ A c, v = .slice A (d.readV a).length c ∧ SlN w' (fun k => k < w.heap.size) A ((d.readV a).map bv) ∧ (d.readV a).length ≤ maxLen := by
  rcases h with ⟨h1, rfl⟩ | ⟨h1, g0, rfl, h3, h4⟩
  · have e : d.readV a = [] := by unfold Dr.readV; rw [if_neg h1]
    rw [e]; exact ⟨none, 0, rfl, fun j u hu => by simp at hu, by unfold maxLen; simp⟩
  · have e : d.readV a = d.now a.toNat := by unfold Dr.readV; rw [if_pos h1]
    have hl := Dr.now_len ok a.toNat (Dr.readE_ok ok h1).2.2
    rw [e, hl]
    refine ⟨_, 64, rfl, fun j u hu => ⟨_, rfl, by simpa using h3, ?_⟩, by unfold maxLen; simp⟩
    have e : (⟨g0, 0, none⟩ : Addr).add j = ⟨g0, j, none⟩ := by unfold Addr.add; by_cases hj : j = 0 <;> simp [hj]
    rw [e, cell_of_row _ _ _ _ _ _ h4, List.getElem?_toArray]; exact hu
set_option maxRecDepth 100000 in
set_option maxHeartbeats 1000000 in
theorem lread_any (g n : Nat) (Sv Wv : Value) (d : Dr) (D : Nat → Prop) (a : Int) (w : World) (h : LMem w g Sv Wv d n D) :
    Calls Tryd.prog 49 #[.pointer (some ⟨g, 0, none⟩), .int .i64 a] w fun r w' => ∃ v, r = .returned (.tuple #[v, .int .i64 (d.readE a : Int)]) ∧ RdV w w' d a v ∧ Turn (fun _ => False) w w' := by
  have HR := Lib.hid (lreach_any g n Sv Wv d D a w h)
  by_cases hr : d.readE a = 0
  case neg =>
    have e : ∀ w', RdV w w' d a (.slice none 0 0) := fun w' => .inl ⟨hr, rfl⟩
    have HE := Lib.hid e
    clear h e
    generalize d.readE a = E at HR hr ⊢
    have hE : ((E : Int) == 0) = false := by rw [beq_eq_false_iff_ne]; omega
    go_enter Tryd.func49, Tryd.ntmps49
    go_wp2_with (go_at_call 50; refine HR.out.mono ?_; rintro r w1 ⟨rfl, hw1⟩; rw [hw1]; clear hw1 w1)
    refine bodyPost_ret (results_tmp2 rfl _ _ _) rfl ?_
    exact ⟨_, rfl, HE.out _, Turn.refl _ _⟩
  obtain ⟨hoff, ha0, hka⟩ := Dr.readE_ok h.ok hr
  obtain ⟨k, rfl⟩ : ∃ k : Nat, a = (k : Int) := ⟨a.toNat, by omega⟩
  have hk : k < n := hka
  have HN := Lib.hid (now_any g n Sv Wv d D k hk w h)
  have hl := Dr.now_len h.ok k hk
  rw [hr] at HR
  obtain ⟨C, hC⟩ : ∃ C, C = ((d.now k).map bv).toArray := ⟨_, rfl⟩
  rw [← hC] at HN
  have hCs : C.size = 64 := by rw [hC]; simp [hl]
  have hC1 : C.all (·.oneCell') = true := by rw [hC, Array.all_eq_true_iff_forall_mem]; intro u hu; exact bv_one _ u (by simpa using hu)
  have HC := Lib.hid hC
  have HST := Lib.hid (fun w1 : World => show (storeCells ⟨w1.heap.size, 0, none⟩ C.toList).run Tryd.prog (w1.alloc (.cells (List.toArray (Value.int .u8 0 :: Value.int .u8 0 :: Value.int .u8 0 :: Value.int .u8 0 :: Value.int .u8 0 :: Value.int .u8 0 :: Value.int .u8 0 :: Value.int .u8 0 :: Value.int .u8 0 :: Value.int .u8 0 :: Value.int .u8 0 :: Value.int .u8 0 :: Value.int .u8 0 :: Value.int .u8 0 :: Value.int .u8 0 :: Value.int .u8 0 :: Value.int .u8 0 :: Value.int .u8 0 :: Value.int .u8 0 :: Value.int .u8 0 :: Value.int .u8 0 :: Value.int .u8 0 :: Value.int .u8 0 :: Value.int .u8 0 :: Value.int .u8 0 :: Value.int .u8 0 :: Value.int .u8 0 :: Value.int .u8 0 :: Value.int .u8 0 :: Value.int .u8 0 :: Value.int .u8 0 :: Value.int .u8 0 :: Value.int .u8 0 :: Value.int .u8 0 :: Value.int .u8 0 :: Value.int .u8 0 :: Value.int .u8 0 :: Value.int .u8 0 :: Value.int .u8 0 :: Value.int .u8 0 :: Value.int .u8 0 :: Value.int .u8 0 :: Value.int .u8 0 :: Value.int .u8 0 :: Value.int .u8 0 :: Value.int .u8 0 :: Value.int .u8 0 :: Value.int .u8 0 :: Value.int .u8 0 :: Value.int .u8 0 :: Value.int .u8 0 :: Value.int .u8 0 :: Value.int .u8 0 :: Value.int .u8 0 :: Value.int .u8 0 :: Value.int .u8 0 :: Value.int .u8 0 :: Value.int .u8 0 :: Value.int .u8 0 :: Value.int .u8 0 :: Value.int .u8 0 :: Value.int .u8 0 :: Value.int .u8 0 :: Value.int .u8 0 :: [])) 92)) = .ok () (w1.alloc (.cells C 92)) from run_store_new w1 C ZSec 92 (by rw [hCs, ZSec_size]) hC1)
  have HR0 := Lib.hid hr
  rw [hr]
  clear h hC ha0 hka hl hr
  go_enter Tryd.func49, Tryd.ntmps49
  go_wp2_with (first | (go_at_call 50; refine HR.out.mono ?_; rintro r w1 ⟨rfl, hw1⟩; rw [hw1]; clear hw1 w1) | (go_at_call 70; refine HN.out.mono ?_; rintro r w2 ⟨rfl, hb2⟩; have HB2 := Lib.hid hb2; clear hb2; have hst := HST.out w2))
  refine bodyPost_ret (results_tmp2 rfl _ _ _) rfl ?_
  refine ⟨_, rfl, .inr ⟨HR0.out, w2.heap.size, rfl, HB2.out.size, ?_⟩, (Turn.of_below HB2.out).trans ((Turn.refl (fun _ => False) w2).alloc _) (fun _ _ h => h)⟩
  rw [show (k : Int).toNat = k from rfl, ← HC.out]
  exact heap_alloc_new w2 _
end
end Go.Proofs.YtajdcekkmikbcaaDoor
