/- The landed line: Add. -/
import Derived.Test.YtgjplbanfnomkaaLnJ
set_option linter.unusedVariables false
set_option linter.unusedSimpArgs false
namespace Go.Proofs.Ytgjplbanfnomkaa
open Go.RowKit
set_option maxRecDepth 100000
theorem lat_store {wr w9 : World} {g : Nat} {v v' : Value} {x x' : Ln} {cs' : List Value} (h : Lat wr g v x) (T : Turn (fun k => v.ownBlock = some k) wr w9) (hv : ItV w9 (Nu w9) x'.l cs') (ho : w9.ownsRow 0 36 2 v' x'.l.length cs') (hb : x'.b = x.b) (ht : x'.t = x.t) (ok : x'.Ok) (hne : v'.ownBlock ≠ some g) :
    Lat (w9.setCell ⟨g, 2, none⟩ v') g v' x' ∧ Turn (Ow g v) wr (w9.setCell ⟨g, 2, none⟩ v') ∧ w9.frozen? ⟨g, 2, none⟩ = false ∧ w9.cell? ⟨g, 2, none⟩ = some v := by
  have h9 := T.heap h.h (fun e => h.ne e)
  have TC : Turn (fun i => i = g) w9 (w9.setCell ⟨g, 2, none⟩ v') := (Turn.refl (fun i => i = g) w9).setCell _ _ (fun _ => rfl)
  have hg : Nu w9 g := by
    rintro ⟨cs, m, e⟩
    rw [h9] at e
    injection e with e
    injection e with _ e
    exact absurd e (by decide)
  refine ⟨⟨?_, ⟨cs', hv.turn TC (fun i e => by have e : i = g := e; rw [e]; exact hg) (Nu.turn TC (fun i e => by have e : i = g := e; rw [e]; exact hg)), own_turn2 TC ho (fun k hk e => by have e : k = g := e; rw [e] at hk; exact hne hk)⟩, ok⟩, (T.mono (fun _ _ h => .inr h)).trans TC (fun _ _ h => .inl h), frozen_of_row w9 g _ _ _ h9, (row3 h9).1.2.2⟩
  rw [heap_setCell_same w9 g 2 _ _ _ h9, hb, ht]
  rfl
theorem Lat.turnRow {wr w9 : World} {g : Nat} {v : Value} {x : Ln} {cs : List Value} (h : Lat wr g v x) (T : Turn (fun k => v.ownBlock = some k) wr w9) (hv : ItV wr (Nu wr) x.l cs) : ItV w9 (Nu w9) x.l cs :=
  hv.turn T (fun i e => h.nuV e) (Nu.turn T (fun i e => h.nuV e))
theorem one_item {p : Itm} {news : List Value} {w : World} {B : Nat} (h : NewI B p news w) : ∀ u ∈ news, u.oneCell' = true := by
  obtain ⟨S, c, rfl, -⟩ := h
  intro u hu
  simp at hu
  rcases hu with rfl | rfl <;> rfl
def Ln.put (x : Ln) (p : Itm) : Ln := ⟨x.b, x.t, x.l ++ [p]⟩
theorem Ln.put_ok {x : Ln} (h : x.Ok) {p : Itm} (hp : okIt p = true) (h1 : x.l.length + 1 ≤ 4096) (h2 : x.b + x.l.length + 1 ≤ 1099511627776) : (x.put p).Ok :=
  ⟨h.b0, h.b1, h.t0, h.t1, fun q hq => by
    rcases List.mem_append.1 hq with hq | hq
    · exact h.it q hq
    · simp at hq; rw [hq]; exact hp, by show (x.l ++ [p]).length ≤ _; simp; omega, by show x.b + ((x.l ++ [p]).length : Int) ≤ _; simp; omega⟩
def APost (g : Nat) (v : Value) (x : Ln) (p : Itm) (w : World) (r : Ending) (w' : World) : Prop := ∃ v', r = .returned (.int .i64 (x.add p).2) ∧ Lat w' g v' (x.add p).1 ∧ LnStep w w' g v v'
theorem Ln.add_no {x : Ln} {p : Itm} (h : ¬ (okIt p = true ∧ x.l.length + 1 ≤ 4096 ∧ x.b + x.l.length + 1 ≤ 1099511627776)) : x.add p = (x, 0) := by
  unfold Ln.add
  rw [if_neg]
  intro hc
  apply h
  unfold Ln.fits MostL at hc
  simp only [Bool.and_eq_true, decide_eq_true_eq] at hc
  exact ⟨hc.1, by omega, by omega⟩
theorem Ln.add_yes {x : Ln} {p : Itm} (h : okIt p = true ∧ x.l.length + 1 ≤ 4096 ∧ x.b + x.l.length + 1 ≤ 1099511627776) : x.add p = (x.put p, x.b + x.l.length + 1) := by
  unfold Ln.add
  rw [if_pos]
  · rfl
  · unfold Ln.fits MostL
    simp only [Bool.and_eq_true, decide_eq_true_eq]
    exact ⟨h.1, by omega, by omega⟩
set_option maxHeartbeats 16000000 in
theorem ladd_any (g : Nat) (v : Value) (x : Ln) (p : Itm) (S : Option Addr) (c : Nat) (N : Nat → Prop) (w : World) (h : Lat w g v x) (hs : BtN w N S c p.b) (hp : p.ok) (hN : ∀ i, Ow g v i → N i) : Calls Try.prog 11 #[.pointer (some ⟨g, 0, none⟩), itV p S c] w (APost g v x p w) := by
  obtain ⟨w0, hw0⟩ : ∃ w0, w0 = w.alloc (itO p S c) := ⟨_, rfl⟩
  have t0 : Turn (fun _ => False) w w0 := by rw [hw0]; exact (Turn.refl _ _).alloc _
  have g0 : w0.heap[w.heap.size]? = some (.cells #[.int .i64 p.t, .slice S p.b.length c] 36 (0, 0)) := by rw [hw0]; exact heap_alloc_new _ _
  obtain ⟨W, hW⟩ : ∃ W, W = w.heap.size := ⟨_, rfl⟩
  rw [← hW] at g0
  have hgW : g < W := by have := h.lt; omega
  have hm := hp.m
  have T1 := fun w' => outside_any p S c w' hm
  have HG0 := Lib.hid g0
  have HT0 := Lib.hid t0
  have HH := Lib.hid h
  have HW := Lib.hid hW
  unfold APost
  by_cases hok : okIt p = true
  rotate_left
  · rw [Ln.add_no (fun h => hok h.1)]
    rw [show okIt p = false by simpa using hok] at T1
    have T1 := Lib.hid (T1 w0)
    obtain ⟨⟨d0, d1⟩, -⟩ := ys_row g0
    clear h hs hp t0 g0 hok
    go_enter Try.func11, Try.ntmps11
    go_upto_region 1 with fail
    change Code.wp _ _ _ _ (w.alloc (itO p S c))
    rw [← hw0, ← hW]
    clear hw0 hW
    go_wp2_with (go_at_call 34; refine stop ?_)
    unfold Stop
    refine T1.out.mono ?_
    rintro r w1 ⟨rfl, t1⟩
    have HT1 := Lib.hid (HT0.out.trans t1 (fun _ _ h => h))
    clear t1 T1
    go_wp2
    go_ret
    exact ⟨v, rfl, HH.out.quiet HT1.out, LnStep.quiet HT1.out⟩
  rw [hok] at T1
  have T1 := Lib.hid (T1 w0)
  have T2 := Lib.hid (fun (w' : World) (t : Turn (fun _ => False) w w') => llast_any g v x w' (h.quiet t))
  have T3 := fun (w' : World) (t : Turn (fun _ => False) w w') => lroom_any g v x w' (h.quiet t) (x.last + 1)
  have hlb : x.last + 1 ≤ 9000000000000000000 ∧ 0 ≤ x.last := by have := h.ok.b0; have := h.ok.b1; have := h.ok.n; unfold Ln.last; omega
  by_cases hr : x.l.length + 1 ≤ 4096 ∧ x.b + x.l.length + 1 ≤ 1099511627776
  rotate_left
  · rw [Ln.add_no (fun h => hr h.2)]
    rw [show decide (x.last + 1 ≤ 1099511627776 ∧ x.last + 1 ≤ x.b + 4096) = false by rw [decide_eq_false_iff_not]; unfold Ln.last; omega] at T3
    have T3 := Lib.hid T3
    obtain ⟨⟨d0, d1⟩, -⟩ := ys_row g0
    generalize x.last = L at *
    clear h hs hp t0 g0 hok
    go_enter Try.func11, Try.ntmps11
    go_upto_region 1 with fail
    change Code.wp _ _ _ _ (w.alloc (itO p S c))
    rw [← hw0, ← hW]
    clear hw0 hW
    go_wp2_with (go_at_call 34; refine stop ?_)
    unfold Stop
    refine T1.out.mono ?_
    rintro r w1 ⟨rfl, t1⟩
    have HT1 := Lib.hid (HT0.out.trans t1 (fun _ _ h => h))
    clear t1 T1
    go_wp2_with (go_at_call 36; refine stop ?_)
    unfold Stop
    refine (T2.out w1 HT1.out).mono ?_
    rintro r w2 ⟨rfl, n2, hw2⟩
    have HT2 := Lib.hid (show Turn (fun _ => False) w w2 by rw [hw2]; exact HT1.out.drewN _)
    clear hw2 T2
    go_wp2_with (go_at_call 35; refine stop ?_)
    unfold Stop
    refine (T3.out w2 HT2.out).mono ?_
    rintro r w3 ⟨rfl, hw3⟩
    rw [hw3]
    clear hw3 w3 T3
    go_wp2
    go_ret
    exact ⟨v, rfl, HH.out.quiet HT2.out, LnStep.quiet HT2.out⟩
  rw [Ln.add_yes ⟨hok, hr⟩]
  rw [show decide (x.last + 1 ≤ 1099511627776 ∧ x.last + 1 ≤ x.b + 4096) = true by rw [decide_eq_true_eq]; unfold Ln.last; omega] at T3
  have T3 := Lib.hid T3
  have HOK' := Lib.hid (Ln.put_ok h.ok hok hr.1 hr.2)
  have HLX := Lib.hid (show (x.put p).last = x.b + x.l.length + 1 by unfold Ln.last Ln.put; simp; omega)
  have HNX := Lib.hid (show (x.put p).l.length = x.l.length + 1 by unfold Ln.put; simp)
  have HPX := Lib.hid (show (x.put p).l = x.l ++ [p] ∧ (x.put p).b = x.b ∧ (x.put p).t = x.t from ⟨rfl, rfl, rfl⟩)
  have HR := Lib.hid hr
  have HB8 := Lib.hid (okIt_parts hok)
  have HS := Lib.hid hs
  have HP := Lib.hid hp
  have HNN := Lib.hid hN
  obtain ⟨⟨d0, d1⟩, -⟩ := ys_row g0
  have hq2 : x.b + x.l.length + 1 = x.last + 1 := rfl
  rw [hq2] at HLX ⊢
  clear h hs hp t0 g0 hok hr hq2
  generalize x.last = L at *
  go_enter Try.func11, Try.ntmps11
  go_upto_region 1 with fail
  change Code.wp _ _ _ _ (w.alloc (itO p S c))
  rw [← hw0, ← hW]
  clear hw0 hW
  go_wp2_with (go_at_call 34; refine stop ?_)
  unfold Stop
  refine T1.out.mono ?_
  rintro r w1 ⟨rfl, t1⟩
  have HT1 := Lib.hid (HT0.out.trans t1 (fun _ _ h => h))
  have HG1 := Lib.hid (t1.heap HG0.out (fun h => h))
  clear t1 T1 d0 d1
  go_wp2_with (go_at_call 36; refine stop ?_)
  unfold Stop
  refine (T2.out w1 HT1.out).mono ?_
  rintro r w2 ⟨rfl, n2, hw2⟩
  have HT2 := Lib.hid (show Turn (fun _ => False) w w2 by rw [hw2]; exact HT1.out.drewN _)
  have HG2 := Lib.hid (show w2.heap[W]? = some (.cells #[.int .i64 p.t, .slice S p.b.length c] 36 (0, 0)) by rw [hw2]; exact HG1.out)
  clear hw2 T2
  go_wp2_with (go_at_call 35; refine stop ?_)
  unfold Stop
  refine (T3.out w2 HT2.out).mono ?_
  rintro r w3 ⟨rfl, hw3⟩
  rw [hw3]
  clear hw3 w3 T3
  obtain ⟨wr, hwr⟩ : ∃ wr, wr = w2 := ⟨_, rfl⟩
  rw [← hwr] at HT2 HG2 ⊢
  clear hwr
  have HHR := Lib.hid (HH.out.quiet HT2.out)
  obtain ⟨cs, hcv, hco⟩ := HHR.out.o
  obtain ⟨A, cA, eV, hcA, hmA, hAA, -⟩ := row_slice hco
  obtain ⟨-, -, c2⟩ := HHR.out.cells
  obtain ⟨⟨d0, d1⟩, -⟩ := ys_row HG2.out
  have HCV := Lib.hid hcv
  have HCO := Lib.hid hco
  have EV := Lib.hid eV
  have C2 := Lib.hid c2
  have HD := Lib.hid (And.intro d0 d1)
  have hB : ∀ q, v.ownBlock = some q → q < wr.heap.size := fun q e => HHR.out.ltV e
  have HBr := Lib.hid hB
  have hne := HHR.out.ne
  have HWlt := Lib.hid (show W < wr.heap.size from lt_of_block HG2.out)
  have hWrow : v.ownBlock ≠ some W := fun e => by have := HH.out.ltV e; have := HW.out; omega
  obtain ⟨n, hn⟩ : ∃ n, n = x.l.length := ⟨_, rfl⟩
  rw [← hn] at HCO EV HR HNX
  have hcap : ∀ q n' cR, v = .slice (some ⟨q, 0, none⟩) n' cR → cR = cA := fun q n' cR e => by rw [EV.out] at e; injection e with _ _ e; exact e.symm
  have HCAP := Lib.hid hcap
  have HXN := Lib.hid hn
  have HRS : ∀ (news : List Value) (w1 w2 : World), NewI wr.heap.size p news w1 → Turn (fun q => v.ownBlock = some q) w1 w2 → NewI wr.heap.size p news w2 := fun news w1 w2 h t => h.turn t hB
  have S25 : ∀ (u : Value) (w1 w2 : World), AggI wr.heap.size p u w1 → App 36 2 n cA v.ownBlock cs (NewI wr.heap.size p) w1 w2 → AggI wr.heap.size p u w2 := fun u w1 w2 h hs => h.turn hs.t hB
  have S26 : ∀ (u : Value) (w1 w2 : World), SlI wr.heap.size p u w1 → App 36 2 n cA v.ownBlock cs (NewI wr.heap.size p) w1 w2 → SlI wr.heap.size p u w2 := fun u w1 w2 h hs => h.turn hs.t hB
  clear hcv hco eV hcA hmA hAA c2 hn hcap d0 d1
  go_upto_region 3 with fail
  refine wp_region_rel_tail 11 32 (by kernel_rfl) (by kernel_rfl) (App 36 2 n cA v.ownBlock cs (NewI wr.heap.size p)) [.one ?_, .one ?_, .one ?_, .one ?_, .one ?_, .one ?_, .rel (AggI wr.heap.size p), .rel (SlI wr.heap.size p), .rel (Apd 36 2 n cA wr.heap.size v.ownBlock cs (NewI wr.heap.size p)), .one ?_, .one ?_] (by kernel_rfl) rfl (by kernel_rfl) App.refl (App.trans HRS) ⟨S25, S26, Apd.stable HRS hB, trivial⟩ ?main
  case main =>
  simp only [List.take_succ_cons, List.take_zero, List.drop_succ_cons, List.drop_zero]
  iterate 4
    refine wpR_one (A' := ?_) App.refl (by rfl) _ rfl 32 (by rfl) (by rfl) ?_ ?_ ?_
    rotate_left 1
    · simp only [Act.put, List.setIfInBounds_toArray, List.set_cons_zero, List.set_cons_succ]; rfl
    · intro w1 hs hf K hK
      go_big_quiet_op
      first
        | go_big_quiet_on
        | (refine ⟨_, fun _ _ => rfl, ?_⟩; go_big_quiet_on)
      rfl
  refine wpR_one (A' := ?_) App.refl (by rfl) _ rfl 32 (by rfl) (by rfl) ?_ ?_ ?_
  rotate_left 1
  · simp only [Act.put, List.setIfInBounds_toArray, List.set_cons_zero, List.set_cons_succ]; rfl
  · intro w1 hs hf K hK
    refine cls_load_cell 27 (.tmp 22) rfl ⟨g, 2, none⟩ rfl (v) (fun w h => by rw [EV.out] at h ⊢; simp [go_sem, h]) (fun w2 h2 => ((App.trans HRS) _ _ _ hs h2).t.cell (show wr.drew.cell? _ = _ from C2.out) (fun e => hne e)) ?_
    refine hK _ ?_
    simp only [Act.put, List.setIfInBounds_toArray, List.set_cons_zero, List.set_cons_succ]
    rfl
  refine wpR_one (A' := ?_) App.refl (by rfl) _ rfl 32 (by rfl) (by rfl) ?_ ?_ ?_
  rotate_left 1
  · simp only [Act.put, List.setIfInBounds_toArray, List.set_cons_zero, List.set_cons_succ]; rfl
  · intro w1 hs hf K hK
    refine cls_load 36 (.tmp 3) rfl (W) (0) rfl ([.int .i64 p.t, .slice S p.b.length c]) _ (fun w2 h2 => row2_range (((App.trans HRS) _ _ _ hs h2).t.cell (show wr.drew.cell? _ = _ from HD.out.1) hWrow) (((App.trans HRS) _ _ _ hs h2).t.cell (show wr.drew.cell? _ = _ from HD.out.2) hWrow)) Try.underlying36 rfl it_size ?_
    refine hK _ ?_
    simp only [Act.put, List.setIfInBounds_toArray, List.set_cons_zero, List.set_cons_succ]
    rfl
  refine wpR_rel (A' := ?_) (by rfl) ?_ ?_ ?_
  · intro w1 hs hf
    have hB1 : wr.heap.size ≤ w1.heap.size := hs.t.size
    have hb1 : BtN w1 (fun _ => False) S c p.b := (HS.out.quiet HT2.out).turn (w' := w1) (show Turn (fun q => v.ownBlock = some q) wr w1 from ⟨hs.t.os, hs.t.tape, hs.t.output, hs.t.size, hs.t.block⟩) (fun i e => HNN.out i (.inr e)) (fun _ _ h => h.elim)
    have CP := lcopied_any p S c _ w1 hb1 (by have := HB8.out.2.2; omega)
    unfold CPost at CP
    refine does_call (w' := w1) (f := 37) (args := #[itV p S c]) (by kernel_rfl) (CP.mono ?_)
    rintro e w3 ⟨S3, c3, rfl, ho, h3⟩
    exact ⟨_, rfl, ⟨S3, c3, rfl, own_lessN ho hB1⟩, App.of_stp (turn_stp' h3) (fun q e => Nat.lt_of_lt_of_le (HBr.out q e) hB1)⟩
  rotate_left 1
  · intro x
    simp only [Act.put, List.setIfInBounds_toArray, List.set_cons_zero, List.set_cons_succ]; rfl
  intro x25
  refine wpR_rel (A' := ?_) (by rfl) ?_ ?_ ?_
  · intro w1 hs hf
    obtain ⟨S25, c25, e25, ho25⟩ := AllF_at hf 0 rfl (by kernel_rfl)
    have e25 : x25 = .agg #[.int .i64 p.t, .slice S25 p.b.length c25] := e25
    have hB1 : wr.heap.size ≤ w1.heap.size := hs.t.size
    have tt : Turn (fun _ => False) w1 (w1.alloc (.cells #[.int .i64 p.t, .slice S25 p.b.length c25] 36)) := (Turn.refl _ _).alloc _
    exact does_build_item (.tmp 25) rfl p.t S25 p.b.length c25 (by rw [← e25]; rfl) ⟨⟨_, _, hB1, rfl, heap_alloc_new _ _, S25, c25, rfl, own_turn2 tt ho25 (fun _ _ h => h)⟩, App.of_stp (turn_stp' tt) (fun q e => Nat.lt_of_lt_of_le (HBr.out q e) hB1)⟩
  rotate_left 1
  · intro x
    simp only [Act.put, List.setIfInBounds_toArray, List.set_cons_zero, List.set_cons_succ]; rfl
  intro x26
  refine wpR_rel (A' := ?_) (by rfl) ?_ ?_ ?_
  · intro w1 hs hf
    obtain ⟨g26, news, hB26, e26, hh26, hn26⟩ := AllF_at hf 0 rfl (by kernel_rfl)
    obtain ⟨i, hi, hz, hs1, hby⟩ := info_parts it_info
    have hB1 : wr.heap.size ≤ w1.heap.size := hs.t.size
    have hrow := hs.keepRow (base := 0) (v := v) (show wr.drew.ownsRow 0 _ 2 v n cs from HCO.out) rfl HCAP.out
    have hnl : news.length = 2 := by obtain ⟨S, c, rfl, -⟩ := hn26; rfl
    have hcs : ∀ j u, news[j]? = some u → w1.cell? ((⟨g26, 0, none⟩ : Addr).add j) = some u := fun j u hu => by
      rw [Addr.add_lit, cell_of_row _ _ _ _ _ _ hh26, Nat.zero_add, List.getElem?_toArray]; exact hu
    obtain ⟨v', w', hr, h3, h4⟩ := run_app (P := Try.prog) (B := wr.heap.size) 27 27 i _ 32 Try.underlying27 hi hz hs1 hby (by rfl) (by decide) HRS w1 v hrow rfl HCAP.out (fun q e => Nat.lt_of_lt_of_le (HBr.out q e) hB1) hB1 ⟨g26, 0, none⟩ 1 news hnl hcs (one_item hn26) hn26 (by have := HR.out.1; unfold maxLen; omega) (by have := HR.out.1; omega)
    exact does_append _ _ _ _ _ v' rfl rfl e26 hr ⟨h3, h4⟩
  rotate_left 1
  · intro x
    simp only [Act.put, List.setIfInBounds_toArray, List.set_cons_zero, List.set_cons_succ]; rfl
  intro x27
  iterate 2
    refine wpR_one (A' := ?_) App.refl (by rfl) _ rfl 32 (by rfl) (by rfl) ?_ ?_ ?_
    rotate_left 1
    · simp only [Act.put, List.setIfInBounds_toArray, List.set_cons_zero, List.set_cons_succ]; rfl
    · intro w1 hs hf K hK
      go_big_quiet_op
      first
        | go_big_quiet_on
        | (refine ⟨_, fun _ _ => rfl, ?_⟩; go_big_quiet_on)
      rfl
  intro w9 hs9 hf9
  obtain ⟨⟨news, hnw, ho27, hx27, hv27⟩, -⟩ := hf9
  obtain ⟨g27, c27, rfl, hb27⟩ : ∃ g' c', x27 = .slice (some ⟨g', 0, none⟩) (n + 1) c' ∧ (v.ownBlock = some g' ∨ wr.heap.size ≤ g') := by
    rcases hv27 with ⟨q, e, rfl⟩ | ⟨q, cq, hq, rfl⟩
    · exact ⟨q, _, rfl, .inl e⟩
    · exact ⟨q, cq, rfl, .inr hq⟩
  have T9 : Turn (fun q => v.ownBlock = some q) wr w9 := ⟨hs9.t.os, hs9.t.tape, hs9.t.output, hs9.t.size, hs9.t.block⟩
  have hne27 : (Value.slice (some ⟨g27, 0, none⟩) (n + 1) c27).ownBlock ≠ some g := fun e => by
    injection e with e
    have e : g27 = g := e
    rcases hb27 with e2 | e2
    · rw [e] at e2; exact hne e2
    · have := HHR.out.lt; omega
  have hiv : ItV w9 (Nu w9) (x.l ++ [p]) (cs ++ news) := (HHR.out.turnRow T9 HCV.out).snoc HP.out hnw
  obtain ⟨L1, L2, z2, y2⟩ := lat_store (x' := x.put p) HHR.out T9 hiv (by rw [HNX.out]; exact ho27) rfl rfl HOK'.out hne27
  have HL1 := Lib.hid L1
  have HL2 := Lib.hid L2
  clear hs9 hv27 ho27 hx27 hnw T9 hiv L1 L2 S25 S26 HRS
  have TL := Lib.hid (llast_any g _ _ _ HL1.out)
  rw [HLX.out] at TL
  go_upto_region 4 with fail
  go_wp2_with (go_at_call 36; refine stop ?_)
  unfold Stop
  refine TL.out.mono ?_
  rintro r w10 ⟨rfl, n10, hw10⟩
  have t10 : Turn (fun _ => False) (w9.setCell ⟨g, 2, none⟩ (.slice (some ⟨g27, 0, none⟩) (n + 1) c27)) w10 := by rw [hw10]; exact (Turn.refl _ _).drewN _
  have HT10 := Lib.hid t10
  clear hw10 t10 TL z2 y2
  go_wp2
  go_ret
  refine ⟨_, rfl, HL1.out.quiet HT10.out, (HT2.out.mono (fun _ _ h => h.elim)).trans (HL2.out.trans HT10.out (fun _ _ h => h.elim)) (fun _ _ h => h), fun k hk => ?_⟩
  injection hk with hk
  have hk : g27 = k := hk
  rw [← hk]
  rcases hb27 with e | e
  · exact .inl e
  · exact .inr (by have := HT2.out.size; omega)
end Go.Proofs.Ytgjplbanfnomkaa
