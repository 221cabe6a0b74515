/- The landed Read of a ballot. -/
import Derived.Test.YtmkpoodhhpfgpaaVtW
set_option linter.unusedVariables false
set_option linter.unusedSimpArgs false
namespace Go.Proofs.Ytmkpoodhhpfgpaa
open Go.RowKit
def s0 (b : List B8) : Rs := ⟨0, b⟩
def rdE (b : List B8) : Nat := if (rf (s0 b)).e ≠ 0 then (rf (s0 b)).e else if (rf (s0 b)).l = [] then 0 else 3
def rdT (b : List B8) : Int := if rdE b ≠ 0 then 0 else rT (s0 b)
def rdF (b : List B8) : Int := if rdE b ≠ 0 then 0 else rF (s0 b)
/-- What reading a ballot comes to. -/
def BPost (b : List B8) (w : World) (r : Ending) (w' : World) : Prop := r = .returned (.tuple #[blV (rdT b) (rdF b), .int .i64 ((rdE b : Nat) : Int)]) ∧ Turn (fun _ => False) w w'
set_option maxRecDepth 100000 in
set_option maxHeartbeats 4000000 in
theorem read1B (e E x : Nat) (N : Nat → Prop) (b : List B8) (w : World) (h : Eye0 w e E N b) (hN : ∀ i, w.heap.size ≤ i → N i) (hx : BBx w x 0 0) (hxe : x ≠ e) (hxE : x ≠ E) (hNx : N x) :
    Calls Try.prog 33 #[.pointer (some ⟨e, 0, none⟩), .pointer (some ⟨x, 0, none⟩)] w fun r w' =>
      ((rf (s0 b)).e = 0 ∧ r = .returned (.tuple #[]) ∧ BBx w' x (rT (s0 b)) (rF (s0 b)) ∧ Eye0 w' e E N (rf (s0 b)).l ∧ Turn (fun i => i = e ∨ i = x) w w') ∨
      ((rf (s0 b)).e ≠ 0 ∧ r = pan E ∧ EyeX w' e E (rf (s0 b)).e ∧ Turn (fun i => i = e ∨ i = E) w w') := by
  have T := readFields_any e E N (s0 b) w h rfl hN
  have HX := Lib.hid hx
  have HNE := Lib.hid (And.intro hxe (And.intro hxE hNx))
  generalize rf (s0 b) = z at *
  generalize rT (s0 b) = t at *
  generalize rF (s0 b) = f at *
  clear h hN hx hxe hxE hNx
  by_cases h0 : z.e = 0
  · have T := Lib.hid (rp_yes T h0)
    have H0 := Lib.hid h0
    clear h0
    go_enter Try.func33, Try.ntmps33
    go_wp2_with (go_at_call 34; refine T.out.mono ?_; rintro r w1 ⟨v, rfl, rfl, he, ht⟩; have HE1 := Lib.hid he; have HT1 := Lib.hid ht; have HX1 := Lib.hid (HX.out.turn ht HNE.out.1); clear he ht; obtain ⟨⟨o0, o1⟩, p0, p1⟩ := HX1.out.cells)
    have h9 := HX1.out.set t f
    first | go_end0 | refine bodyPost_ret (results_none rfl _ _ _) rfl ?_
    refine Or.inl ⟨H0.out, rfl, h9.1, HE1.out.turn h9.2 (fun h => HNE.out.1 h.symm) (fun h => HNE.out.2.1 h.symm) (fun i hi => by have hi : i = x := hi; rw [hi]; exact HNE.out.2.2), (HT1.out.mono (fun _ _ h => .inl h)).trans h9.2 (fun _ _ h => .inr h)⟩
  · have T := Lib.hid (rp_no T h0)
    have H0 := Lib.hid h0
    clear h0
    go_enter Try.func33, Try.ntmps33
    go_wp2_with (go_at_call 34; refine T.out.mono ?_; rintro r w1 ⟨rfl, he, ht⟩; dsimp only [pan]; have HE1 := Lib.hid he; have HT1 := Lib.hid ht; clear he ht)
    exact ⟨rfl, Or.inr ⟨H0.out, rfl, HE1.out, HT1.out⟩⟩
set_option maxRecDepth 100000 in
set_option maxHeartbeats 8000000 in
theorem read16_any (A : Option Addr) (c : Nat) (b : List B8) (w : World) (hs : Sl w w.heap.size A (b.map bv)) (hA : A = none → c = 0) (hc : b.length ≤ c) (hlen : b.length ≤ 1099511627776) :
    Calls Try.prog 22 #[.slice A b.length c] w (BPost b w) := by
  have hmf : ∀ (fn : Fn) (first cap : Array Value) (w : World), (Instr.makeFunc fn first cap).run Try.prog w = .ok (.func fn first cap) w := fun _ _ _ _ => rfl
  obtain ⟨w2, hw2⟩ : ∃ w2, w2 = (w.alloc (.cells (blC 0 0) 23)).alloc (.cells (blC 0 0) 23) := ⟨_, rfl⟩
  have s2 : w2.heap.size = w.heap.size + 2 := by rw [hw2]; simp
  have t2 : Turn (fun _ => False) w w2 := by rw [hw2]; exact ((Turn.refl _ _).alloc _).alloc _
  have gr : BBx w2 w.heap.size 0 0 := by rw [hw2]; exact heap_alloc2_old _ _ _
  have gx : BBx w2 (w.heap.size + 1) 0 0 := by rw [hw2]; exact heap_alloc2_new _ _ _
  have T := Lib.hid (read_cap 33 (.pointer (some ⟨w.heap.size + 1, 0, none⟩)) A c b w2 (fun i => i = w2.heap.size + 1 ∨ i = w2.heap.size ∨ i = w.heap.size + 1) (fun i => w.heap.size ≤ i)
    (fun l w3 => (rf (s0 b)).e = 0 ∧ l = (rf (s0 b)).l ∧ BBx w3 (w.heap.size + 1) (rT (s0 b)) (rF (s0 b)) ∧ Turn (fun i => i = w.heap.size + 1) w2 w3)
    (fun k w3 => (rf (s0 b)).e = k ∧ Turn (fun i => i = w.heap.size + 1) w2 w3) (fun _ _ => by kernel_rfl)
    ((SlN.of hs (N := fun i => w.heap.size ≤ i) (fun i hi => by omega)).turn t2 (fun _ h => h.elim) (fun _ _ h => h)) hA hc hlen (by omega)
    (by
      intro w1 t1 s1 e1
      refine (read1B (w2.heap.size + 1) w2.heap.size (w.heap.size + 1) _ b w1 e1 (fun i hi => .inr (by omega)) (t1.heap gx (fun h => h)) (by omega) (by omega) (.inl (by omega))).mono ?_
      rintro r w3 (⟨hz, rfl, hx, he, ht⟩ | ⟨hz, rfl, he, ht⟩)
      · exact ⟨ht.mono (fun i _ h => by omega), .inl ⟨rfl, _, he, hz, rfl, hx, (t1.mono (fun _ _ h => h.elim)).trans ht (fun i hi h => by omega)⟩⟩
      · exact ⟨ht.mono (fun i _ h => by omega), .inr ⟨rfl, _, hz, he, rfl, (t1.mono (fun _ _ h => h.elim)).trans ht (fun i hi h => by omega)⟩⟩))
  have GR := Lib.hid gr
  have T2 := Lib.hid t2
  have HS2 := Lib.hid s2
  have HE0 := Lib.hid (show rdE b = if (rf (s0 b)).e ≠ 0 then (rf (s0 b)).e else if (rf (s0 b)).l = [] then 0 else 3 from rfl)
  have HVT := Lib.hid (show rdT b = if rdE b ≠ 0 then 0 else rT (s0 b) from rfl)
  have HVF := Lib.hid (show rdF b = if rdE b ≠ 0 then 0 else rF (s0 b) from rfl)
  unfold BPost
  generalize rdE b = ex at *
  generalize rdT b = tx at *
  generalize rdF b = fx at *
  generalize rf (s0 b) = z at *
  generalize rT (s0 b) = t at *
  generalize rF (s0 b) = f at *
  clear hs hlen gr gx t2 s2
  go_enter Try.func22, Try.ntmps22
  go_upto_region 2 with fail
  change Code.wp _ _ _ _ ((w.alloc (.cells (blC 0 0) 23)).alloc (.cells (blC 0 0) 23))
  rw [← hw2]
  clear hw2
  go_wp2_with fail
  refine T.out.mono ?_
  rintro r w4 ⟨w3, ht4, (⟨l1, ⟨hz, rfl, hx, ht3⟩, rfl⟩ | ⟨k, hk, ⟨hz, ht3⟩, rfl⟩)⟩
  · have HG4 := Lib.hid (GR.out.turn ht3 (by show ¬ _ = _; omega) |>.turn ht4 (by have := HS2.out; show ¬ _; omega))
    have HX4 := Lib.hid (hx.turn ht4 (by have := HS2.out; show ¬ _; omega))
    have HT4 := Lib.hid (show Turn (fun _ => False) w w4 from (T2.out.trans ht3 (fun i hi h => by omega)).trans ht4 (fun i hi h => by have := HS2.out; omega))
    obtain ⟨⟨o0, o1⟩, p0, p1⟩ := HG4.out.cells
    obtain ⟨⟨d0, d1⟩, -⟩ := HX4.out.cells
    have HE := Lib.hid (show ex = if z.l = [] then 0 else 3 by rw [HE0.out, if_neg (by rw [hz]; simp)])
    clear T hz ht3 ht4 hx HE0
    by_cases hl : z.l = []
    · have HEX := Lib.hid (show ex = 0 by rw [HE.out, if_pos hl])
      have HTX := Lib.hid (show tx = t ∧ fx = f from ⟨by rw [HVT.out, if_neg (by rw [HEX.out]; simp)], by rw [HVF.out, if_neg (by rw [HEX.out]; simp)]⟩)
      rw [if_pos hl]
      clear hl HE HVT HVF
      go_wp2_with fail
      have h9 := HG4.out.set t f
      refine bodyPost_ret (v := .tuple #[blV t f, .int .i64 0]) ?_ rfl ?_
      · exact results_bl Try.results22 _ _ w.heap.size _ _ rfl rfl h9.1 rfl
      · exact ⟨by (rw [HTX.out.1, HTX.out.2, HEX.out] <;> rfl), HT4.out.trans h9.2 (fun i hi e => by have e : i = w.heap.size := e; omega)⟩
    · have HEX := Lib.hid (show ex = 3 by rw [HE.out, if_neg hl])
      have HTX := Lib.hid (show tx = 0 ∧ fx = 0 from ⟨by rw [HVT.out, if_pos (by rw [HEX.out]; simp)], by rw [HVF.out, if_pos (by rw [HEX.out]; simp)]⟩)
      rw [if_neg hl]
      clear hl HE HVT HVF
      go_wp2_with fail
      have h9 := HG4.out.set 0 0
      refine bodyPost_ret (v := .tuple #[blV 0 0, .int .i64 3]) ?_ rfl ?_
      · exact results_bl Try.results22 _ _ w.heap.size _ _ rfl rfl h9.1 rfl
      · exact ⟨by (rw [HTX.out.1, HTX.out.2, HEX.out] <;> rfl), HT4.out.trans h9.2 (fun i hi e => by have e : i = w.heap.size := e; omega)⟩
  · have HG4 := Lib.hid (GR.out.turn ht3 (by show ¬ _ = _; omega) |>.turn ht4 (by have := HS2.out; show ¬ _; omega))
    have HT4 := Lib.hid (show Turn (fun _ => False) w w4 from (T2.out.trans ht3 (fun i hi h => by omega)).trans ht4 (fun i hi h => by have := HS2.out; omega))
    obtain ⟨⟨o0, o1⟩, p0, p1⟩ := HG4.out.cells
    have HEX := Lib.hid (show ex = k by rw [HE0.out, if_pos (by rw [hz]; exact hk), hz])
    have HTX := Lib.hid (show tx = 0 ∧ fx = 0 from ⟨by rw [HVT.out, if_pos (by rw [HEX.out]; exact hk)], by rw [HVF.out, if_pos (by rw [HEX.out]; exact hk)]⟩)
    have hk1 : ((k : Int) != 0) = true := by simp; omega
    clear T hz ht3 ht4 HE0 HVT HVF hk
    go_wp2_with fail
    have h9 := HG4.out.set 0 0
    refine bodyPost_ret (v := .tuple #[blV 0 0, .int .i64 (k : Int)]) ?_ rfl ?_
    · exact results_bl Try.results22 _ _ w.heap.size _ _ rfl rfl h9.1 rfl
    · exact ⟨by (rw [HTX.out.1, HTX.out.2, HEX.out] <;> rfl), HT4.out.trans h9.2 (fun i hi e => by have e : i = w.heap.size := e; omega)⟩
end Go.Proofs.Ytmkpoodhhpfgpaa
