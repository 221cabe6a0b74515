/- Merged: The landed letter: sameItem, and the search of Same. The landed letter: Same. -/
import Derived.Test.YtaicpclkdpbacaaLtQ
namespace Go.Proofs.Ytaicpclkdpbacaa
section
set_option linter.unusedVariables false
set_option linter.unusedSimpArgs false

open Go.RowKit
theorem bequalN {w : World} {N N' : Nat → Prop} {S S' : Option Addr} {c c' : Nat} {a b : List B8} (h : BtN w N S c a) (h' : BtN w N' S' c' b) :
    Calls Try.prog 36 #[.slice S a.length c, .slice S' b.length c'] w fun e w' => e = .returned (.bool (decide (a = b))) ∧ w = w' :=
  bequal_any S S' c c' _ _ a b w h.sl h.a h.c h'.sl h'.a h'.c
set_option maxRecDepth 100000 in
set_option maxHeartbeats 4000000 in
theorem sameItem_any (p q : Itm) (N N' : Nat → Prop) (S S' : Option Addr) (c c' : Nat) (w : World) (hp : BtN w N S c p.b) (hq : BtN w N' S' c' q.b) (hm : p.b.length ≤ maxLen) (hm' : q.b.length ≤ maxLen) :
    Calls Try.prog 35 #[.agg #[.int .i64 p.t, .slice S p.b.length c], .agg #[.int .i64 q.t, .slice S' q.b.length c']] w fun r w' => r = .returned (.bool (decide (p = q))) ∧ Turn (fun _ => False) w w' := by
  obtain ⟨w0, hw0⟩ : ∃ w0, w0 = (w.alloc (.cells #[.int .i64 p.t, .slice S p.b.length c] 40)).alloc (.cells #[.int .i64 q.t, .slice S' q.b.length c'] 40) := ⟨_, rfl⟩
  have hT0 : Turn (fun _ => False) w w0 := by rw [hw0]; exact ((Turn.refl _ _).alloc _).alloc _
  have hg0 : w0.heap[w.heap.size]? = some (.cells #[.int .i64 p.t, .slice S p.b.length c] 40 (0, 0)) := by rw [hw0]; exact heap_alloc2_old _ _ _
  have hg1 : w0.heap[w.heap.size + 1]? = some (.cells #[.int .i64 q.t, .slice S' q.b.length c'] 40 (0, 0)) := by rw [hw0]; exact heap_alloc2_new _ _ _
  obtain ⟨⟨c0, c1⟩, -⟩ := ys_row hg0
  obtain ⟨⟨d0, d1⟩, -⟩ := ys_row hg1
  have T := bequalN (hp.quiet hT0) (hq.quiet hT0)
  have HT0 := Lib.hid hT0
  unfold maxLen at hm hm'
  have HE := Lib.hid (show decide (p = q) = (decide (p.t = q.t) && decide (p.b = q.b)) by
    rw [Bool.eq_iff_iff]; simp only [Bool.and_eq_true, decide_eq_true_eq]
    exact ⟨fun e => by subst e; exact ⟨rfl, rfl⟩, fun e => Itm.ext e.1 e.2⟩)
  generalize decide (p = q) = R at *
  generalize decide (p.b = q.b) = B at *
  clear hT0 hg0 hg1 hp hq
  by_cases h1 : p.t = q.t
  · have e1 : (p.t == q.t) = true := by rw [h1]; simp
    have HR := Lib.hid (show B = R by rw [HE.out, decide_eq_true h1, Bool.true_and])
    have T := Lib.hid T
    clear h1 HE
    go_enter Try.func35, Try.ntmps35
    go_upto_region 1 with fail
    change Code.wp _ _ _ _ ((w.alloc (.cells #[.int .i64 p.t, .slice S p.b.length c] 40)).alloc (.cells #[.int .i64 q.t, .slice S' q.b.length c'] 40))
    rw [← hw0]
    clear hw0
    go_wp2_with (go_at_call 36; refine T.out.mono ?_; rintro r w9 ⟨rfl, hw9⟩; rw [← hw9]; clear hw9 w9)
    go_ret
    exact ⟨ret_bool HR.out, HT0.out⟩
  · have e1 : (p.t == q.t) = false := beq_false_of_ne h1
    have HR := Lib.hid (show false = R by rw [HE.out, decide_eq_false h1, Bool.false_and])
    clear h1 HE T
    go_enter Try.func35, Try.ntmps35
    go_upto_region 1 with fail
    change Code.wp _ _ _ _ ((w.alloc (.cells #[.int .i64 p.t, .slice S p.b.length c] 40)).alloc (.cells #[.int .i64 q.t, .slice S' q.b.length c'] 40))
    rw [← hw0]
    clear hw0
    go_wp2_with fail
    go_ret
    exact ⟨ret_bool HR.out, HT0.out⟩
set_option maxRecDepth 100000 in
set_option maxHeartbeats 4000000 in
theorem eqItems_any (A A' : Option Addr) (c c' : Nat) (N N' : Nat → Prop) (l m : List Itm) (w : World) (hI : ItN w N A l) (hJ : ItN w N' A' m) (hl : l.length ≤ maxLen) (hm : m.length ≤ maxLen) :
    Calls Try.prog 34 #[.slice A l.length c, .slice A' m.length c', .func (.func 35) #[] #[]] w fun e w' => e = .returned (.bool (decide (l = m))) ∧ Turn (fun _ => False) w w' := by
  unfold maxLen at hl hm
  have HI := Lib.hid hI
  have HJ := Lib.hid hJ
  clear hI hJ
  obtain ⟨r, hr⟩ : ∃ r, r = decide (l = m) := ⟨_, rfl⟩
  rw [← hr]
  have HRR := Lib.hid hr
  clear hr
  by_cases hlm : l.length = m.length
  · have t1 : ((l.length : Int) != (m.length : Int)) = false := by rw [hlm]; simp
    have HLM := Lib.hid hlm
    clear hlm
    go_enter Try.func34, Try.ntmps34
    go_wp2
    go_loopw [17] (fun i wr => ∃ k : Nat, k ≤ l.length ∧ i = .int .i64 k ∧ l.take k = m.take k ∧ Turn (fun _ => False) w wr) (fun i _ => l.length - (intOf i).toNat)
    case atStart => exact ⟨0, Nat.zero_le _, rfl, rfl, Turn.refl _ _⟩
    case round =>
      obtain ⟨k, hk, rfl, htk, ht⟩ := hrel
      have HTK := Lib.hid htk
      by_cases hlt : k < l.length
      · have hlt' : k < m.length := by have := HLM.out; omega
        obtain ⟨hokp, b, o, S, cp, rfl, -, hsp, p0, p1⟩ := (HI.out.quiet ht) k l[k] (List.getElem?_eq_getElem hlt)
        obtain ⟨hokq, b', o', S', cq, rfl, -, hsq, q0, q1⟩ := (HJ.out.quiet ht) k m[k] (List.getElem?_eq_getElem hlt')
        have HNO := Lib.hid (fun hne : ¬ l[k] = m[k] => show false = r by rw [HRR.out]; symm; rw [decide_eq_false_iff_not]; rintro rfl; exact hne rfl)
        have HYES := Lib.hid (fun he => take_next hlt hlt' HTK.out he)
        obtain ⟨p, hp⟩ : ∃ p, p = l[k] := ⟨_, rfl⟩
        obtain ⟨q, hq⟩ : ∃ q, q = m[k] := ⟨_, rfl⟩
        rw [← hp] at hokp hsp p0 p1 HNO HYES
        rw [← hq] at hokq hsq q0 q1 HNO HYES
        have C := Lib.hid (fun (w2 : World) (t : Turn (fun _ => False) wr w2) => sameItem_any p q N N' S S' cp cq w2 (hsp.quiet t) (hsq.quiet t) hokp.m hokq.m)
        have HT := Lib.hid ht
        have HTW := Lib.hid (show Turn (fun _ => False) wr ((wr.alloc (.cells #[.int .i64 p.t, .slice S p.b.length cp] 40)).alloc (.cells #[.int .i64 q.t, .slice S' q.b.length cq] 40)) from ((Turn.refl _ _).alloc _).alloc _)
        have q0 := ((Turn.refl (fun _ => False) wr).alloc (.cells #[.int .i64 p.t, .slice S p.b.length cp] 40)).cell q0 (fun h => h)
        have q1 := ((Turn.refl (fun _ => False) wr).alloc (.cells #[.int .i64 p.t, .slice S p.b.length cp] 40)).cell q1 (fun h => h)
        have bp := hokp.m
        have bq := hokq.m
        unfold maxLen at bp bq
        clear hokp hokq hsp hsq hp hq ht htk
        go_wp2_with fail
        refine (C.out _ HTW.out).mono ?_
        rintro e w3 ⟨rfl, t3⟩
        have HT3 := Lib.hid ((HT.out.trans HTW.out (fun _ _ h => h)).trans t3 (fun _ _ h => h))
        clear t3
        by_cases hpq : p = q
        · have HR := Lib.hid (HYES.out hpq)
          rw [show decide (p = q) = true by simp [hpq]]
          clear hpq
          go_wp2
          go_roundw
          case rel => exact ⟨k + 1, by omega, by go_num, HR.out, HT3.out⟩
          case measure => simp [intOf]; omega
        · have HR := Lib.hid (HNO.out hpq)
          rw [show decide (p = q) = false by simp [hpq]]
          clear hpq
          go_wp2
          go_ret
          exact ⟨ret_bool HR.out, HT3.out⟩
      · obtain rfl : k = l.length := by omega
        have HR := Lib.hid (show true = r by
          have h1 := HTK.out
          rw [List.take_length, HLM.out, List.take_length] at h1
          rw [HRR.out, h1]; simp)
        clear htk
        go_wp2
        go_ret
        exact ⟨ret_bool HR.out, ht⟩
  · have t1 : ((l.length : Int) != (m.length : Int)) = true := by simp; omega
    have HR := Lib.hid (show false = r by rw [HRR.out]; symm; rw [decide_eq_false_iff_not]; rintro rfl; exact hlm rfl)
    clear hlm
    go_enter Try.func34, Try.ntmps34
    go_wp2
    go_ret
    exact ⟨ret_bool HR.out, Turn.refl _ _⟩

end
section
set_option linter.unusedVariables false
set_option linter.unusedSimpArgs false

open Go.RowKit
set_option maxRecDepth 100000 in
set_option maxHeartbeats 8000000 in
theorem same_any (A1 S1 A2 S2 : Option Addr) (a1 s1 a2 s2 : Nat) (N N' : Nat → Prop) (s t : Ltr) (w : World) (h : LtN w N A1 a1 S1 s1 s) (h' : LtN w N' A2 a2 S2 s2 t) :
    Calls Try.prog 17 #[ltV A1 a1 S1 s1 s, ltV A2 a2 S2 s2 t] w fun e w' => e = .returned (.bool (sameL s t)) ∧ Turn (fun _ => False) w w' := by
  obtain ⟨w0, hw0⟩ : ∃ w0, w0 = (w.alloc (.cells (ltC A1 a1 S1 s1 s) 25)).alloc (.cells (ltC A2 a2 S2 s2 t) 25) := ⟨_, rfl⟩
  have hT0 : Turn (fun _ => False) w w0 := by rw [hw0]; exact ((Turn.refl _ _).alloc _).alloc _
  have hg0 : LBx w0 w.heap.size A1 a1 S1 s1 s := by rw [hw0]; exact heap_alloc2_old _ _ _
  have hg1 : LBx w0 (w.heap.size + 1) A2 a2 S2 s2 t := by rw [hw0]; exact heap_alloc2_new _ _ _
  have CE := Lib.hid (eqItems_any A1 A2 a1 a2 N N' s.its t.its w0 (h.its.quiet hT0) (h'.its.quiet hT0) h.im h'.im)
  have CB := Lib.hid (fun (w2 : World) (T : Turn (fun _ => False) w0 w2) => bequalN ((h.b.quiet hT0).quiet T) ((h'.b.quiet hT0).quiet T))
  have CC := Lib.hid (fun (w2 : World) (T : Turn (fun _ => False) w0 w2) => And.intro ((hg0.turn T (fun h => h)).cells) ((hg1.turn T (fun h => h)).cells))
  obtain ⟨c0, c1, c2, c3, c4, c5, c6, c7⟩ := hg0.cells
  obtain ⟨d0, d1, d2, d3, d4, d5, d6, d7⟩ := hg1.cells
  have HT0 := Lib.hid hT0
  have SN := Lib.hid (fun (h : ¬ (s.k = t.k ∧ s.t = t.t ∧ s.x = t.x ∧ s.y = t.y ∧ s.z = t.z ∧ s.s = t.s ∧ s.its = t.its ∧ s.b = t.b)) => show sameL s t = false by
    unfold sameL; rw [decide_eq_false_iff_not]; rintro rfl; exact h ⟨rfl, rfl, rfl, rfl, rfl, rfl, rfl, rfl⟩)
  have SA := Lib.hid (@same_yes s t)
  have im := h.im
  have bm := h.bm
  have im' := h'.im
  have bm' := h'.bm
  unfold maxLen at im bm im' bm'
  generalize sameL s t = rr at *
  clear h h' hT0 hg0 hg1
  by_cases q0 : s.k = t.k
  rotate_left
  · have HR := Lib.hid (SN.out (fun h => q0 h.1))
    have e0 : (s.k == t.k) = false := beq_false_of_ne q0
    clear q0 SN SA CE CB CC
    go_enter Try.func17, Try.ntmps17
    go_upto_region 1 with fail
    change Code.wp _ _ _ _ ((w.alloc (.cells (ltC A1 a1 S1 s1 s) 25)).alloc (.cells (ltC A2 a2 S2 s2 t) 25))
    rw [← hw0]
    clear hw0
    go_wp2_with fail
    go_ret
    exact ⟨ret_bool HR.out.symm, HT0.out⟩
  have e0 : (s.k == t.k) = true := by rw [q0]; simp
  have Q0 := Lib.hid q0
  clear q0
  by_cases q1 : s.t = t.t
  rotate_left
  · have HR := Lib.hid (SN.out (fun h => q1 h.2.1))
    have e1 : (s.t == t.t) = false := beq_false_of_ne q1
    clear q1 SN SA CE CB CC
    go_enter Try.func17, Try.ntmps17
    go_upto_region 1 with fail
    change Code.wp _ _ _ _ ((w.alloc (.cells (ltC A1 a1 S1 s1 s) 25)).alloc (.cells (ltC A2 a2 S2 s2 t) 25))
    rw [← hw0]
    clear hw0
    go_wp2_with fail
    go_ret
    exact ⟨ret_bool HR.out.symm, HT0.out⟩
  have e1 : (s.t == t.t) = true := by rw [q1]; simp
  have Q1 := Lib.hid q1
  clear q1
  by_cases q2 : s.x = t.x
  rotate_left
  · have HR := Lib.hid (SN.out (fun h => q2 h.2.2.1))
    have e2 : (s.x == t.x) = false := beq_false_of_ne q2
    clear q2 SN SA CE CB CC
    go_enter Try.func17, Try.ntmps17
    go_upto_region 1 with fail
    change Code.wp _ _ _ _ ((w.alloc (.cells (ltC A1 a1 S1 s1 s) 25)).alloc (.cells (ltC A2 a2 S2 s2 t) 25))
    rw [← hw0]
    clear hw0
    go_wp2_with fail
    go_ret
    exact ⟨ret_bool HR.out.symm, HT0.out⟩
  have e2 : (s.x == t.x) = true := by rw [q2]; simp
  have Q2 := Lib.hid q2
  clear q2
  by_cases q3 : s.y = t.y
  rotate_left
  · have HR := Lib.hid (SN.out (fun h => q3 h.2.2.2.1))
    have e3 : (s.y == t.y) = false := beq_false_of_ne q3
    clear q3 SN SA CE CB CC
    go_enter Try.func17, Try.ntmps17
    go_upto_region 1 with fail
    change Code.wp _ _ _ _ ((w.alloc (.cells (ltC A1 a1 S1 s1 s) 25)).alloc (.cells (ltC A2 a2 S2 s2 t) 25))
    rw [← hw0]
    clear hw0
    go_wp2_with fail
    go_ret
    exact ⟨ret_bool HR.out.symm, HT0.out⟩
  have e3 : (s.y == t.y) = true := by rw [q3]; simp
  have Q3 := Lib.hid q3
  clear q3
  by_cases q4 : s.z = t.z
  rotate_left
  · have HR := Lib.hid (SN.out (fun h => q4 h.2.2.2.2.1))
    have e4 : (s.z == t.z) = false := beq_false_of_ne q4
    clear q4 SN SA CE CB CC
    go_enter Try.func17, Try.ntmps17
    go_upto_region 1 with fail
    change Code.wp _ _ _ _ ((w.alloc (.cells (ltC A1 a1 S1 s1 s) 25)).alloc (.cells (ltC A2 a2 S2 s2 t) 25))
    rw [← hw0]
    clear hw0
    go_wp2_with fail
    go_ret
    exact ⟨ret_bool HR.out.symm, HT0.out⟩
  have e4 : (s.z == t.z) = true := by rw [q4]; simp
  have Q4 := Lib.hid q4
  clear q4
  by_cases q5 : s.s = t.s
  rotate_left
  · have HR := Lib.hid (SN.out (fun h => q5 h.2.2.2.2.2.1))
    have e5 : (s.s == t.s) = false := beq_false_of_ne q5
    clear q5 SN SA CE CB CC
    go_enter Try.func17, Try.ntmps17
    go_upto_region 1 with fail
    change Code.wp _ _ _ _ ((w.alloc (.cells (ltC A1 a1 S1 s1 s) 25)).alloc (.cells (ltC A2 a2 S2 s2 t) 25))
    rw [← hw0]
    clear hw0
    go_wp2_with fail
    go_ret
    exact ⟨ret_bool HR.out.symm, HT0.out⟩
  have e5 : (s.s == t.s) = true := by rw [q5]; simp
  have Q5 := Lib.hid q5
  clear q5
  by_cases q6 : s.its = t.its
  rotate_left
  · have HR := Lib.hid (SN.out (fun h => q6 h.2.2.2.2.2.2.1))
    rw [decide_eq_false q6] at CE
    clear q6 SN SA CB CC
    go_enter Try.func17, Try.ntmps17
    go_upto_region 1 with fail
    change Code.wp _ _ _ _ ((w.alloc (.cells (ltC A1 a1 S1 s1 s) 25)).alloc (.cells (ltC A2 a2 S2 s2 t) 25))
    rw [← hw0]
    clear hw0
    go_wp2_with (go_at_call 34; refine CE.out.mono ?_; rintro r w9 ⟨rfl, hw9⟩; have HW9 := Lib.hid hw9; clear hw9)
    go_ret
    exact ⟨ret_bool HR.out.symm, HT0.out.trans HW9.out (fun _ _ h => h)⟩
  rw [decide_eq_true q6] at CE
  have Q6 := Lib.hid q6
  have HR := Lib.hid (show decide (s.b = t.b) = rr by
    by_cases hb : s.b = t.b
    · rw [decide_eq_true hb, SA.out ⟨Q0.out, Q1.out, Q2.out, Q3.out, Q4.out, Q5.out, Q6.out, hb⟩]
    · rw [decide_eq_false hb, SN.out (fun h => hb h.2.2.2.2.2.2.2)])
  clear q6 SN SA
  generalize decide (s.b = t.b) = B at *
  go_enter Try.func17, Try.ntmps17
  go_upto_region 1 with fail
  change Code.wp _ _ _ _ ((w.alloc (.cells (ltC A1 a1 S1 s1 s) 25)).alloc (.cells (ltC A2 a2 S2 s2 t) 25))
  rw [← hw0]
  clear hw0
  go_wp2_with (first
    | (go_at_call 34; refine CE.out.mono ?_; rintro r w9 ⟨rfl, hw9⟩; have HW9 := Lib.hid hw9; clear CE c0 c1 c2 c3 c4 c5 c6 c7 d0 d1 d2 d3 d4 d5 d6 d7; obtain ⟨⟨-, -, -, -, -, -, -, c7⟩, ⟨-, -, -, -, -, -, -, d7⟩⟩ := CC.out w9 hw9; clear hw9)
    | (go_at_call 36; refine (CB.out _ HW9.out).mono ?_; rintro r w8 ⟨rfl, hw8⟩; rw [← hw8]; clear hw8 w8))
  go_ret
  exact ⟨ret_bool HR.out, HT0.out.trans HW9.out (fun _ _ h => h)⟩

end
end Go.Proofs.Ytaicpclkdpbacaa
