/- The landed reader of a ballot. -/
import Derived.Test.YtmkpoodhhpfgpaaVtV
import Derived.Test.YtmkpoodhhpfgpaaTxE1
import Derived.Test.YtmkpoodhhpfgpaaTxN
set_option linter.unusedVariables false
set_option linter.unusedSimpArgs false
namespace Go.Proofs.Ytmkpoodhhpfgpaa
open Go.RowKit
/-- A reading's state: the error, the rest. -/
structure Rs where
  e : Nat
  l : List B8
def MX : Nat := 1099511627776
def Rs.num (s : Rs) (m : Nat) : Rs := ⟨nE s.e m s.l, numR s.l⟩
def Rs.nv (s : Rs) (m : Nat) : Nat := if nE s.e m s.l ≠ 0 then 0 else numV s.l
theorem nE_val {e m : Nat} {l : List B8} (h : nE e m l = 0) : numV l ≤ m := by
  unfold nE eNum at h
  split at h
  · omega
  · split at h
    · omega
    · split at h <;> omega
theorem nv_le (s : Rs) (m : Nat) : s.nv m ≤ m := by
  unfold Rs.nv
  by_cases h : nE s.e m s.l ≠ 0
  · rw [if_pos h]; exact Nat.zero_le _
  · rw [if_neg h]; exact nE_val (e := s.e) (by omega)
theorem num_err {s : Rs} {m : Nat} (h : s.e ≠ 0) : (s.num m).e = s.e ∧ s.nv m = 0 := by
  have e : nE s.e m s.l = s.e := by unfold nE; rw [if_pos h]
  exact ⟨e, by unfold Rs.nv; rw [e, if_pos h]⟩
/-- What a reading comes to: the state s', a value that V tells of; or the panic. -/
def RP (e E : Nat) (N : Nat → Prop) (w : World) (s : Rs) (V : World → Value → Prop) (r : Ending) (w' : World) : Prop :=
  (s.e = 0 ∧ ∃ v, r = .returned v ∧ V w' v ∧ Eye0 w' e E N s.l ∧ Turn (fun i => i = e) w w') ∨ (s.e ≠ 0 ∧ r = pan E ∧ EyeX w' e E s.e ∧ Turn (fun i => i = e ∨ i = E) w w')
theorem rp_yes {P : Program} {f : FuncId} {args : Array Value} {e E : Nat} {N : Nat → Prop} {w : World} {s : Rs} {V : World → Value → Prop} (h : Calls P f args w (RP e E N w s V)) (h0 : s.e = 0) :
    Calls P f args w fun r w' => ∃ v, r = .returned v ∧ V w' v ∧ Eye0 w' e E N s.l ∧ Turn (fun i => i = e) w w' :=
  h.mono fun r w' h => h.elim (fun h => h.2) (fun h => absurd h0 h.1)
theorem rp_no {P : Program} {f : FuncId} {args : Array Value} {e E : Nat} {N : Nat → Prop} {w : World} {s : Rs} {V : World → Value → Prop} (h : Calls P f args w (RP e E N w s V)) (h0 : s.e ≠ 0) :
    Calls P f args w fun r w' => r = pan E ∧ EyeX w' e E s.e ∧ Turn (fun i => i = e ∨ i = E) w w' :=
  h.mono fun r w' h => h.elim (fun h => absurd h.1 h0) (fun h => h.2)
theorem num_at {s : Rs} (m : Nat) (hs : s.e = 0) : (s.num m).e = eNum m s.l := by
  show nE s.e m s.l = _
  unfold nE; rw [if_neg (by omega)]
theorem nv_at {s : Rs} {m : Nat} (h0 : (s.num m).e = 0) : s.nv m = numV s.l := by
  unfold Rs.nv; rw [if_neg (by intro h; exact h h0)]
theorem eye_num (e E : Nat) (N : Nat → Prop) (s : Rs) (m : Nat) (w : World) (h : Eye0 w e E N s.l) (hs : s.e = 0) :
    Calls Try.prog 47 #[.pointer (some ⟨e, 0, none⟩), .int .u64 (m : Int)] w (RP e E N w (s.num m) fun _ v => v = .int .u64 (s.nv m : Int)) := by
  have hx := num_at m hs
  by_cases h0 : (s.num m).e = 0
  · refine (num_yes e E N m s.l w h (by rw [← hx]; exact h0)).mono ?_
    rintro r w' ⟨rfl, he, ht⟩
    exact Or.inl ⟨h0, _, rfl, by rw [nv_at h0], he, ht⟩
  · refine (num_no e E N m s.l w h (by rw [← hx]; exact h0)).mono ?_
    rintro r w' ⟨rfl, he, ht⟩
    exact Or.inr ⟨h0, rfl, by rw [hx]; exact he, ht⟩
theorem twoT {e E : Nat} {a b c : World} (h : Turn (fun i => i = e) a b) (k : Turn (fun i => i = e ∨ i = E) b c) : Turn (fun i => i = e ∨ i = E) a c := (h.mono (fun _ _ h => .inl h)).trans k (fun _ _ h => h)
/-- Behind both fields. -/
def rf (s : Rs) : Rs := (s.num MX).num 7
def rT (s : Rs) : Int := ((s.nv MX : Nat) : Int)
def rF (s : Rs) : Int := (((s.num MX).nv 7 : Nat) : Int) - 1
set_option maxRecDepth 100000 in
set_option maxHeartbeats 8000000 in
theorem readFields_any (e E : Nat) (N : Nat → Prop) (s : Rs) (w : World) (h : Eye0 w e E N s.l) (hs : s.e = 0) (hN : ∀ i, w.heap.size ≤ i → N i) :
    Calls Try.prog 34 #[.pointer (some ⟨e, 0, none⟩)] w (RP e E N w (rf s) fun _ v => v = blV (rT s) (rF s)) := by
  obtain ⟨W, hW⟩ : ∃ W, W = w.heap.size := ⟨_, rfl⟩
  obtain ⟨hle, hlE, -, -, -, -⟩ := h.lt
  rw [← hW] at hle hlE hN
  obtain ⟨w0, hw0⟩ : ∃ w0, w0 = (w.alloc (.cells (blC 0 0) 23)).alloc (.cells (blC 0 0) 23) := ⟨_, rfl⟩
  have hT0 : Turn (fun _ => False) w w0 := by rw [hw0]; exact ((Turn.refl _ _).alloc _).alloc _
  have g0 : BBx w0 W 0 0 := by rw [hw0, hW]; exact heap_alloc2_old _ _ _
  have g1 : BBx w0 (W + 1) 0 0 := by rw [hw0, hW]; exact heap_alloc2_new _ _ _
  have HE0 := Lib.hid (h.turn hT0 (fun h => h) (fun h => h) (fun _ h => h.elim))
  have HT0 := Lib.hid (show Turn (fun i => i = e) w w0 from hT0.mono (fun _ _ h => h.elim))
  have bn : s.nv MX ≤ 1099511627776 := Nat.le_trans (nv_le _ _) (by decide)
  have bm : (s.num MX).nv 7 ≤ 7 := nv_le _ _
  have HB := Lib.hid (And.intro hle (And.intro hlE hN))
  have HW := Lib.hid hW
  have T := eye_num e E N s MX w0 HE0.out hs
  have HR := Lib.hid (show rf s = (s.num MX).num 7 from rfl)
  have HV := Lib.hid (show rT s = ((s.nv MX : Nat) : Int) ∧ rF s = (((s.num MX).nv 7 : Nat) : Int) - 1 from ⟨rfl, rfl⟩)
  generalize rf s = zs at *
  generalize rT s = tv at *
  generalize rF s = fv at *
  obtain ⟨⟨d0, d1⟩, d2, d3⟩ := g1.cells
  have HG0 := Lib.hid g0
  have HG1 := Lib.hid g1
  clear h hN hT0 g0 g1
  go_enter Try.func34, Try.ntmps34
  go_upto_region 2 with fail
  change Code.wp _ _ _ _ ((w.alloc (.cells (blC 0 0) 23)).alloc (.cells (blC 0 0) 23))
  rw [← hw0, ← hW]
  clear hw0 hW
  unfold MX at T
  by_cases hx : (s.num MX).e = 0
  rotate_left
  · have T := Lib.hid (rp_no T hx)
    have HX := Lib.hid hx
    clear hx d0 d1 d2 d3
    go_wp2_with (go_at_call 47; refine T.out.mono ?_; rintro r w9 ⟨rfl, he9, ht9⟩; dsimp only [pan]; have HE9 := Lib.hid he9; have HT9 := Lib.hid ht9; clear he9 ht9)
    refine ⟨rfl, Or.inr ⟨by rw [HR.out, (num_err HX.out).1]; exact HX.out, rfl, by rw [HR.out, (num_err HX.out).1]; exact HE9.out, twoT HT0.out HT9.out⟩⟩
  have T := Lib.hid (rp_yes T hx)
  have HV1 := Lib.hid (show s.nv MX = s.nv 1099511627776 from rfl)
  have HX1 := Lib.hid hx
  clear hx
  go_wp2_with (go_at_call 47; refine stop ?_)
  unfold Stop
  refine T.out.mono ?_
  rintro r w1 ⟨v, rfl, rfl, he1, ht1⟩
  rw [← HV1.out]
  obtain ⟨n1, hn1⟩ : ∃ n, n = s.nv MX := ⟨_, rfl⟩
  rw [← hn1] at HV bn ⊢
  have hb1 := HG1.out.turn ht1 (by have := HB.out.1; show ¬ _ = e; omega)
  have hb0 := HG0.out.turn ht1 (by have := HB.out.1; show ¬ _ = e; omega)
  have HG1b := Lib.hid hb1
  have HG0b := Lib.hid hb0
  have HT1 := Lib.hid (HT0.out.trans ht1 (fun _ _ h => h))
  have HE1 := Lib.hid he1
  clear d0 d1 d2 d3 hn1 he1 ht1 T HE0 HG0 HG1
  obtain ⟨⟨d0, d1⟩, d2, d3⟩ := hb1.cells
  clear hb1 hb0
  go_upto_region 3 with fail
  obtain ⟨x1, hx1⟩ : ∃ x1, x1 = (w1.setCell ⟨W + 1, 0, none⟩ (.int .i64 (n1 : Int))) := ⟨_, rfl⟩
  have st : Turn (fun i => i = W + 1) w1 x1 := by rw [hx1]; exact (Turn.refl _ _).setCell _ _ (fun _ => rfl)
  have hg := HG1b.out.set0 (n1 : Int)
  rw [← hx1] at hg ⊢
  have HE2 := Lib.hid (HE1.out.turn st (by have := HB.out.1; show ¬ e = _; omega) (by have := HB.out.2.1; show ¬ E = _; omega) (fun i hi => HB.out.2.2 i (by have hi : i = W + 1 := hi; omega)))
  have HG2 := Lib.hid hg
  have HG3 := Lib.hid (HG0b.out.turn st (by show ¬ _ = _; omega))
  have HT2 := Lib.hid (HT1.out.trans st (fun i hi h => by have h : i = W + 1 := h; have := HW.out; omega))
  clear hx1 st hg d0 d1 d2 d3
  have T := eye_num e E N (s.num MX) 7 x1 HE2.out HX1.out
  by_cases hx : ((s.num MX).num 7).e = 0
  rotate_left
  · have T := Lib.hid (rp_no T hx)
    have HX := Lib.hid hx
    clear hx
    go_wp2_with (go_at_call 47; refine T.out.mono ?_; rintro r w9 ⟨rfl, he9, ht9⟩; dsimp only [pan]; have HE9 := Lib.hid he9; have HT9 := Lib.hid ht9; clear he9 ht9)
    refine ⟨rfl, Or.inr ⟨by rw [HR.out]; exact HX.out, rfl, by rw [HR.out]; exact HE9.out, twoT HT2.out HT9.out⟩⟩
  have T := Lib.hid (rp_yes T hx)
  have HX2 := Lib.hid hx
  obtain ⟨n2, hn2⟩ : ∃ n, n = (s.num MX).nv 7 := ⟨_, rfl⟩
  rw [← hn2] at HV bm T
  clear hx hn2
  obtain ⟨⟨d0, d1⟩, d2, d3⟩ := HG2.out.cells
  go_wp2_with (go_at_call 47; refine stop ?_)
  unfold Stop
  refine T.out.mono ?_
  rintro r w3 ⟨v, rfl, rfl, he3, ht3⟩
  have hb1 := HG2.out.turn ht3 (by have := HB.out.1; show ¬ _ = e; omega)
  have HG5 := Lib.hid hb1
  have hb0 := HG3.out.turn ht3 (by have := HB.out.1; show ¬ _ = e; omega)
  have HG6 := Lib.hid hb0
  have HT3 := Lib.hid (HT2.out.trans ht3 (fun _ _ h => h))
  have HE3 := Lib.hid he3
  clear d0 d1 d2 d3 he3 ht3 T HE2 HG2 HG3
  obtain ⟨⟨d0, d1⟩, d2, d3⟩ := hb1.cells
  clear hb1 hb0
  go_upto_region 4 with fail
  obtain ⟨x3, hx3⟩ : ∃ x3, x3 = (w3.setCell ⟨W + 1, 1, none⟩ (.int .i64 ((n2 : Int) - 1))) := ⟨_, rfl⟩
  have st : Turn (fun i => i = W + 1) w3 x3 := by rw [hx3]; exact (Turn.refl _ _).setCell _ _ (fun _ => rfl)
  have hg := HG5.out.set1 ((n2 : Int) - 1)
  rw [← hx3] at hg ⊢
  have HE4 := Lib.hid (HE3.out.turn st (by have := HB.out.1; show ¬ e = _; omega) (by have := HB.out.2.1; show ¬ E = _; omega) (fun i hi => HB.out.2.2 i (by have hi : i = W + 1 := hi; omega)))
  have hb0 := HG6.out.turn st (by show ¬ _ = _; omega)
  have HG7 := Lib.hid hb0
  have HT4 := Lib.hid (HT3.out.trans st (fun i hi h => by have h : i = W + 1 := h; have := HW.out; omega))
  clear hx3 st d0 d1 d2 d3
  obtain ⟨⟨c0, c1⟩, -⟩ := hg.cells
  obtain ⟨⟨d0, d1⟩, d2, d3⟩ := hb0.cells
  clear hg hb0
  go_wp2
  have h9 := HG7.out.set (n1 : Int) ((n2 : Int) - 1)
  refine bodyPost_ret (v := blV (n1 : Int) ((n2 : Int) - 1)) ?_ rfl ?_
  · exact results_cell_row Try.results34 _ _ W _ (blC (n1 : Int) ((n2 : Int) - 1)) (0, 0) _ rfl h9.1 Try.underlying23 rfl bl_info
  · refine Or.inl ⟨by rw [HR.out]; exact HX2.out, _, rfl, by rw [HV.out.1, HV.out.2], by rw [HR.out]; exact HE4.out.turn h9.2 (by have := HB.out.1; show ¬ e = _; omega) (by have := HB.out.2.1; show ¬ E = _; omega) (fun i hi => HB.out.2.2 i (by have hi : i = W := hi; omega)), HT4.out.trans h9.2 (fun i hi h => by have h : i = W := h; have := HW.out; omega)⟩
end Go.Proofs.Ytmkpoodhhpfgpaa
