/- Merged: The landed letter: the closure of Read. The landed letter: Read. -/
import Derived.Test.YtaicpclkdpbacaaLta
namespace Go.Proofs.Ytaicpclkdpbacaa
section
set_option linter.unusedVariables false
set_option linter.unusedSimpArgs false

open Go.RowKit
set_option maxRecDepth 100000 in
set_option maxHeartbeats 4000000 in
theorem read1L (e E x : Nat) (N : Nat → Prop) (b : List B8) (w : World) (h : Eye0 w e E N b) (hN : ∀ i, w.heap.size ≤ i → N i) (hx : LBx w x none 0 none 0 zL) (hxe : x ≠ e) (hxE : x ≠ E) (hNx : N x) :
    Calls Try.prog 28 #[.pointer (some ⟨e, 0, none⟩), .pointer (some ⟨x, 0, none⟩)] w fun r w' =>
      ((rf (s0 b)).e = 0 ∧ r = .returned (.tuple #[]) ∧ (∃ A cA S cS, LBx w' x A cA S cS (rfV (s0 b)) ∧ LtN w' (fun i => i < w.heap.size) A cA S cS (rfV (s0 b))) ∧ Eye0 w' e E N (rf (s0 b)).l ∧ Turn (fun i => i = e ∨ i = x) w w') ∨
      ((rf (s0 b)).e ≠ 0 ∧ r = pan E ∧ EyeX w' e E (rf (s0 b)).e ∧ Turn (fun i => i = e ∨ i = E) w w') := by
  have T := readFields_any e E N (s0 b) w h rfl hN
  have hxl : x < w.heap.size := lt_of_block hx
  have HXL := Lib.hid hxl
  have HX := Lib.hid hx
  have HNE := Lib.hid (And.intro hxe (And.intro hxE hNx))
  generalize rf (s0 b) = z at *
  generalize rfV (s0 b) = l at *
  clear h hN hx hxe hxE hNx hxl
  by_cases h0 : z.e = 0
  · have T := Lib.hid (rp_yes T h0)
    have H0 := Lib.hid h0
    clear h0
    go_enter Try.func28, Try.ntmps28
    go_wp2_with (go_at_call 29; refine T.out.mono ?_; rintro r w1 ⟨v, rfl, ⟨A, cA, S, cS, rfl, hl⟩, he, ht⟩; have HE1 := Lib.hid he; have HT1 := Lib.hid ht; have HL1 := Lib.hid hl; have HX1 := Lib.hid (HX.out.turn ht HNE.out.1); clear he ht hl; obtain ⟨⟨o0, o1, o2, o3, o4, o5, o6, o7⟩, p0, p1, p2, p3, p4, p5, p6, p7⟩ := row8 HX1.out)
    have h9 := set8 HX1.out (.int .i64 l.k) (.int .i64 l.t) (.int .i64 l.x) (.int .i64 l.y) (.int .i64 l.z) (.bool l.s) (.slice A l.its.length cA) (.slice S l.b.length cS)
    first | go_end0 | refine bodyPost_ret (results_none rfl _ _ _) rfl ?_
    refine Or.inl ⟨H0.out, rfl, ⟨A, cA, S, cS, h9.1, HL1.out.turn h9.2 (fun i hi => by have hi : i = x := hi; show i < _; rw [hi]; exact HXL.out) (fun _ _ h => h)⟩, HE1.out.turn h9.2 (fun h => HNE.out.1 h.symm) (fun h => HNE.out.2.1 h.symm) (fun i hi => by have hi : i = x := hi; rw [hi]; exact HNE.out.2.2), (HT1.out.mono (fun _ _ h => .inl h)).trans h9.2 (fun _ _ h => .inr h)⟩
  · have T := Lib.hid (rp_no T h0)
    have H0 := Lib.hid h0
    clear h0
    go_enter Try.func28, Try.ntmps28
    go_wp2_with (go_at_call 29; refine T.out.mono ?_; rintro r w1 ⟨rfl, he, ht⟩; dsimp only [pan]; have HE1 := Lib.hid he; have HT1 := Lib.hid ht; clear he ht)
    exact ⟨rfl, Or.inr ⟨H0.out, rfl, HE1.out, HT1.out⟩⟩

end
section
set_option linter.unusedVariables false
set_option linter.unusedSimpArgs false

open Go.RowKit
theorem rd_no {b : List B8} (h : (rf (s0 b)).e ≠ 0) : rdE b = (rf (s0 b)).e := by
  have hr : rf (s0 b) = if (sK (s0 b)).e ≠ 0 then sK (s0 b) else rdS b := rfl
  have hk : (sK (s0 b)).e = if (s1 b).e ≠ 0 then (s1 b).e else if k1 b = 0 then 25 else 0 := rfl
  rw [hr] at h ⊢
  unfold rdE
  by_cases h1 : (s1 b).e ≠ 0
  · rw [if_pos h1] at hk ⊢
    rw [if_pos (by rw [hk]; exact h1), hk]
  · rw [if_neg h1] at hk ⊢
    by_cases h2 : k1 b = 0
    · rw [if_pos h2] at hk ⊢
      rw [if_pos (by rw [hk]; decide), hk]
    · rw [if_neg h2] at hk ⊢
      have h0 : ¬ (sK (s0 b)).e ≠ 0 := by rw [hk]; decide
      rw [if_neg h0] at h
      rw [if_neg h0, if_pos h]
theorem rd_yes {b : List B8} (h : (rf (s0 b)).e = 0) : rdE b = if (rf (s0 b)).l = [] then 0 else 3 := by
  have hr : rf (s0 b) = if (sK (s0 b)).e ≠ 0 then sK (s0 b) else rdS b := rfl
  have hk : (sK (s0 b)).e = if (s1 b).e ≠ 0 then (s1 b).e else if k1 b = 0 then 25 else 0 := rfl
  by_cases h0 : (sK (s0 b)).e ≠ 0
  · rw [hr, if_pos h0] at h; exact absurd h h0
  rw [if_neg h0] at hr
  rw [hr] at h ⊢
  unfold rdE
  by_cases h1 : (s1 b).e ≠ 0
  · rw [if_pos h1] at hk; exact absurd h1 (by rw [← hk]; exact h0)
  by_cases h2 : k1 b = 0
  · rw [if_neg h1, if_pos h2] at hk; exact absurd (by rw [hk]; decide) h0
  rw [if_neg h1, if_neg h2, if_neg (by omega)]
  by_cases h3 : (rdS b).l = []
  · rw [if_pos h3, if_neg (by intro h; exact h h3)]
  · rw [if_neg h3, if_pos h3]
theorem rd_val (b : List B8) : rdV b = if rdE b ≠ 0 then zL else rfV (s0 b) := rfl
set_option maxRecDepth 100000 in
set_option maxHeartbeats 8000000 in
theorem lread15_any (A : Option Addr) (c : Nat) (b : List B8) (w : World) (hs : Sl w w.heap.size A (b.map bv)) (hA : A = none → c = 0) (hc : b.length ≤ c) (hlen : b.length ≤ 1099511627776) :
    Calls Try.prog 12 #[.slice A b.length c] w (LPost b w) := by
  have hmf : ∀ (fn : Fn) (first cap : Array Value) (w : World), (Instr.makeFunc fn first cap).run Try.prog w = .ok (.func fn first cap) w := fun _ _ _ _ => rfl
  obtain ⟨w2, hw2⟩ : ∃ w2, w2 = (w.alloc (.cells ZLt 25)).alloc (.cells ZLt 25) := ⟨_, rfl⟩
  have s2 : w2.heap.size = w.heap.size + 2 := by rw [hw2]; simp
  have t2 : Turn (fun _ => False) w w2 := by rw [hw2]; exact ((Turn.refl _ _).alloc _).alloc _
  have gr : LBx w2 w.heap.size none 0 none 0 zL := by rw [hw2]; exact heap_alloc2_old _ _ _
  have gx : LBx w2 (w.heap.size + 1) none 0 none 0 zL := by rw [hw2]; exact heap_alloc2_new _ _ _
  have T := Lib.hid (read_cap 28 (.pointer (some ⟨w.heap.size + 1, 0, none⟩)) A c b w2 (fun i => i = w2.heap.size + 1 ∨ i = w2.heap.size ∨ i = w.heap.size + 1) (fun i => w.heap.size ≤ i)
    (fun l w3 => (rf (s0 b)).e = 0 ∧ l = (rf (s0 b)).l ∧ (∃ A cA S cS, LBx w3 (w.heap.size + 1) A cA S cS (rfV (s0 b)) ∧ LtN w3 (fun i => i < w2.heap.size + 4) A cA S cS (rfV (s0 b))) ∧ Turn (fun i => i = w.heap.size + 1) w2 w3)
    (fun k w3 => (rf (s0 b)).e = k ∧ Turn (fun i => i = w.heap.size + 1) w2 w3) (fun _ _ => by kernel_rfl)
    ((SlN.of hs (N := fun i => w.heap.size ≤ i) (fun i hi => by omega)).turn t2 (fun _ h => h.elim) (fun _ _ h => h)) hA hc hlen (by omega)
    (by
      intro w1 t1 s1 e1
      refine (read1L (w2.heap.size + 1) w2.heap.size (w.heap.size + 1) _ b w1 e1 (fun i hi => .inr (by omega)) (t1.heap gx (fun h => h)) (by omega) (by omega) (.inl (by omega))).mono ?_
      rintro r w3 (⟨hz, rfl, ⟨A, cA, S, cS, hx, hI⟩, he, ht⟩ | ⟨hz, rfl, he, ht⟩)
      · refine ⟨ht.mono (fun i _ h => by omega), .inl ⟨rfl, _, he, hz, rfl, ⟨A, cA, S, cS, hx, ?_⟩, (t1.mono (fun _ _ h => h.elim)).trans ht (fun i hi h => by omega)⟩⟩
        rw [s1] at hI; exact hI
      · exact ⟨ht.mono (fun i _ h => by omega), .inr ⟨rfl, _, hz, he, rfl, (t1.mono (fun _ _ h => h.elim)).trans ht (fun i hi h => by omega)⟩⟩))
  have GR := Lib.hid gr
  have T2 := Lib.hid t2
  have HS2 := Lib.hid s2
  have HEY := Lib.hid (@rd_yes b)
  have HEN := Lib.hid (@rd_no b)
  have HV := Lib.hid (rd_val b)
  unfold LPost
  generalize rdE b = ex at *
  generalize rdV b = lx at *
  generalize rf (s0 b) = z at *
  generalize rfV (s0 b) = l at *
  clear hs hlen gr gx t2 s2
  go_enter Try.func12, Try.ntmps12
  go_upto_region 2 with fail
  change Code.wp _ _ _ _ ((w.alloc (.cells ZLt 25)).alloc (.cells ZLt 25))
  rw [← hw2]
  clear hw2
  go_wp2_with fail
  refine T.out.mono ?_
  rintro r w4 ⟨w3, ht4, (⟨l1, ⟨hz, rfl, ⟨A1, cA, S1, cS, hx, hI⟩, ht3⟩, rfl⟩ | ⟨k, hk, ⟨hz, ht3⟩, rfl⟩)⟩
  · have HG4 := Lib.hid (ht4.heap (ht3.heap GR.out (by omega)) (by have := HS2.out; omega))
    have HX4 := Lib.hid (ht4.heap hx (by have := HS2.out; omega))
    have HT4 := Lib.hid (show Turn (fun _ => False) w w4 from (T2.out.trans ht3 (fun i hi h => by omega)).trans ht4 (fun i hi h => by have := HS2.out; omega))
    have HI4 := Lib.hid (hI.turn (N' := fun i => i < w2.heap.size) ht4 (fun i h => by have h' : i = w2.heap.size + 1 := h; show i < _; omega) (fun i _ h => by have h' : i < w2.heap.size := h; show i < _; omega))
    obtain ⟨⟨o0, o1, o2, o3, o4, o5, o6, o7⟩, p0, p1, p2, p3, p4, p5, p6, p7⟩ := row8 HG4.out
    obtain ⟨⟨d0, d1, d2, d3, d4, d5, d6, d7⟩, -⟩ := row8 HX4.out
    have HE := Lib.hid (HEY.out hz)
    clear T hz ht3 ht4 hx hI HEY HEN
    by_cases hl : z.l = []
    · have HEX := Lib.hid (show ex = 0 by rw [HE.out, if_pos hl])
      have HLX := Lib.hid (show lx = l by rw [HV.out, if_neg (by rw [HEX.out]; simp)])
      rw [if_pos hl]
      clear hl HE HV
      go_wp2_with fail
      have h9 := set8 HG4.out (.int .i64 l.k) (.int .i64 l.t) (.int .i64 l.x) (.int .i64 l.y) (.int .i64 l.z) (.bool l.s) (.slice A1 l.its.length cA) (.slice S1 l.b.length cS)
      refine bodyPost_ret (v := .tuple #[ltV A1 cA S1 cS l, .int .i64 0]) ?_ rfl ?_
      · exact results_lt Try.results12 _ _ w.heap.size _ _ rfl rfl h9.1 rfl
      · exact ⟨A1, cA, S1, cS, by (rw [HLX.out, HEX.out] <;> rfl), by rw [HLX.out]; exact HI4.out.turn h9.2 (fun i hi => by have hi : i = w.heap.size := hi; have := HS2.out; show i < _; omega) (fun _ _ h => h.elim), HT4.out.trans h9.2 (fun i hi e => by have e : i = w.heap.size := e; omega)⟩
    · have HEX := Lib.hid (show ex = 3 by rw [HE.out, if_neg hl])
      have HLX := Lib.hid (show lx = zL by rw [HV.out, if_pos (by rw [HEX.out]; simp)])
      rw [if_neg hl]
      clear hl HE HV
      go_wp2_with fail
      have h9 := set8 HG4.out (.int .i64 0) (.int .i64 0) (.int .i64 0) (.int .i64 0) (.int .i64 0) (.bool false) (.slice none 0 0) (.slice none 0 0)
      refine bodyPost_ret (v := .tuple #[.agg ZLt, .int .i64 3]) ?_ rfl ?_
      · exact results_lt Try.results12 _ _ w.heap.size _ _ rfl rfl h9.1 rfl
      · exact ⟨none, 0, none, 0, by (rw [HLX.out, HEX.out] <;> rfl), by rw [HLX.out]; exact zL_at _ _, HT4.out.trans h9.2 (fun i hi e => by have e : i = w.heap.size := e; omega)⟩
  · have HG4 := Lib.hid (ht4.heap (ht3.heap GR.out (by omega)) (by have := HS2.out; omega))
    have HT4 := Lib.hid (show Turn (fun _ => False) w w4 from (T2.out.trans ht3 (fun i hi h => by omega)).trans ht4 (fun i hi h => by have := HS2.out; omega))
    obtain ⟨⟨o0, o1, o2, o3, o4, o5, o6, o7⟩, p0, p1, p2, p3, p4, p5, p6, p7⟩ := row8 HG4.out
    have HEX := Lib.hid (show ex = k by rw [HEN.out (by rw [hz]; exact hk), hz])
    have HLX := Lib.hid (show lx = zL by rw [HV.out, if_pos (by rw [HEX.out]; exact hk)])
    have hk1 : ((k : Int) != 0) = true := by simp; omega
    clear T hz ht3 ht4 HEY HEN HV hk
    go_wp2_with fail
    have h9 := set8 HG4.out (.int .i64 0) (.int .i64 0) (.int .i64 0) (.int .i64 0) (.int .i64 0) (.bool false) (.slice none 0 0) (.slice none 0 0)
    refine bodyPost_ret (v := .tuple #[.agg ZLt, .int .i64 (k : Int)]) ?_ rfl ?_
    · exact results_lt Try.results12 _ _ w.heap.size _ _ rfl rfl h9.1 rfl
    · exact ⟨none, 0, none, 0, by (rw [HLX.out, HEX.out] <;> rfl), by rw [HLX.out]; exact zL_at _ _, HT4.out.trans h9.2 (fun i hi e => by have e : i = w.heap.size := e; omega)⟩

end
end Go.Proofs.Ytaicpclkdpbacaa
