/- The contract of the document's Same. -/
import Derived.Test.YteaoaabjdgdcmaaTxW
set_option linter.unusedVariables false
set_option linter.unusedSimpArgs false
namespace Go.Proofs.Yteaoaabjdgdcmaa
open Go.RowKit
attribute [local go_sem ↓] loadAt_pt loadAt_out
attribute [local go_sem] rowOf_drew rowOf_drewN run_ptLoad run_outLoad
set_option maxRecDepth 100000 in
theorem neq_rec (t ti : TypeId) (k : IntKind) (n0 n1 : String) (hf : (Try.prog.fieldsOf t).toList.map (fun f => (f.name, f.type, f.offset)) = [(n0, 37, 0), (n1, ti, 32)]) (h0 : n0 ≠ "_") (h1 : n1 ≠ "_")
    (ht : Try.prog.underlying t = some (.struct (Try.prog.fieldsOf t))) (hp : Try.prog.stoodInHeld t = false) (hi : Try.prog.underlying ti = some (.int k)) (a b : List B8) (x y : Int) (ha : a.length = 32) (hb : b.length = 32) (w : World) :
    (binOp .neq t (.agg (recV a (.int k x)).toArray) (.agg (recV b (.int k y)).toArray)).run Try.prog w = .ok (.bool (!decide (a = b ∧ x = y))) w := by
  have h := eq_rec t ti k n0 n1 hf h0 h1 ht hp hi a b x y ha hb w
  rw [run_eql_struct] at h
  rw [run_neq_struct]
  generalize (Op.equalIn 10000 t (.agg (recV a (.int k x)).toArray) (.agg (recV b (.int k y)).toArray)).run Try.prog w = r at *
  cases r with
  | ok v w1 =>
    simp only [Result.andThen_ok] at h ⊢
    injection h with e1 e2
    injection e1 with e1
    rw [e1, e2]
  | halt v w1 => simp [Result.andThen] at h
set_option maxRecDepth 100000 in
theorem neq_point (p q : Pin) (hp : p.d.length = 32) (hq : q.d.length = 32) (w : World) :
    (binOp .neq 39 (.agg (recV p.d (.int .i64 p.x)).toArray) (.agg (recV q.d (.int .i64 q.x)).toArray)).run Try.prog w = .ok (.bool (!samePt p q)) w :=
  neq_rec 39 3 .i64 "Tx" "Index" (by kernel_rfl) (by decide) (by decide) (by kernel_rfl) (by kernel_rfl) Try.underlying3 _ _ _ _ hp hq w
set_option maxRecDepth 100000 in
theorem neq_out (p q : Pout) (hp : p.d.length = 32) (hq : q.d.length = 32) (w : World) :
    (binOp .neq 43 (.agg (recV p.d (.int .u64 (p.n : Int))).toArray) (.agg (recV q.d (.int .u64 (q.n : Int))).toArray)).run Try.prog w = .ok (.bool (!decide (p = q))) w := by
  rw [neq_rec 43 26 .u64 "Owner" "Amount" (by kernel_rfl) (by decide) (by decide) (by kernel_rfl) (by kernel_rfl) Try.underlying26 p.d q.d (p.n : Int) (q.n : Int) hp hq w]
  congr 3
  rw [decide_eq_decide]
  cases p; cases q; simp; omega
def sameB (s t : Ptx) : Bool := decide (s = t)
set_option maxRecDepth 100000 in
theorem same_len {s t : Ptx} (h : ¬ (s.ins.length = t.ins.length ∧ s.outs.length = t.outs.length ∧ s.fee = t.fee ∧ s.exp = t.exp)) : sameB s t = false := by
  unfold sameB; rw [decide_eq_false_iff_not]; rintro rfl; exact h ⟨rfl, rfl, rfl, rfl⟩
set_option maxRecDepth 100000 in
theorem same_in {s t : Ptx} {k : Nat} (hs : k < s.ins.length) (ht : k < t.ins.length) (h : ¬ s.ins[k] = t.ins[k]) : sameB s t = false := by
  unfold sameB; rw [decide_eq_false_iff_not]; rintro rfl; exact h rfl
set_option maxRecDepth 100000 in
theorem same_out {s t : Ptx} {k : Nat} (hs : k < s.outs.length) (ht : k < t.outs.length) (h : ¬ s.outs[k] = t.outs[k]) : sameB s t = false := by
  unfold sameB; rw [decide_eq_false_iff_not]; rintro rfl; exact h rfl
set_option maxRecDepth 100000 in
theorem same_all {s t : Ptx} (h1 : s.ins = t.ins) (h2 : s.outs = t.outs) (h3 : s.fee = t.fee) (h4 : s.exp = t.exp) : sameB s t = true := by
  unfold sameB; rw [decide_eq_true_eq]; cases s; cases t; simp_all
set_option maxRecDepth 100000 in
theorem take_next {α : Type} {a b : List α} {k : Nat} (ha : k < a.length) (hb : k < b.length) (h : a.take k = b.take k) (hk : a[k] = b[k]) : a.take (k + 1) = b.take (k + 1) := by
  rw [List.take_succ_eq_append_getElem ha, List.take_succ_eq_append_getElem hb, h, hk]
set_option maxRecDepth 100000 in
theorem pin_eq {p q : Pin} (h1 : samePt p q = true) (h2 : p.n = q.n) (h3 : p.b = q.b) : p = q := by
  unfold samePt at h1; rw [decide_eq_true_eq] at h1
  cases p; cases q; simp_all
set_option maxRecDepth 100000 in
set_option maxHeartbeats 8000000 in
theorem rsame_any (A1 A2 A3 A4 : Option Addr) (k1 k2 k3 k4 B : Nat) (s t : Ptx) (w : World) (h : TxAt w B A1 k1 A2 k2 s) (h' : TxAt w B A3 k3 A4 k4 t) :
    Calls Try.prog 7 #[txV A1 k1 A2 k2 s, txV A3 k3 A4 k4 t] w fun e w' => e = .returned (.bool (sameB s t)) ∧ Turn (fun _ => False) w w' := by
  obtain ⟨w0, hw0⟩ : ∃ w0, w0 = (w.alloc (.cells #[.slice A1 s.ins.length k1, .slice A2 s.outs.length k2, .int .u64 (s.fee : Int), .int .i64 s.exp] 28)).alloc (.cells #[.slice A3 t.ins.length k3, .slice A4 t.outs.length k4, .int .u64 (t.fee : Int), .int .i64 t.exp] 28) := ⟨_, rfl⟩
  have hT0 : Turn (fun _ => False) w w0 := by rw [hw0]; exact ((Turn.refl _ _).alloc _).alloc _
  have hg0 : w0.heap[w.heap.size]? = some (.cells #[.slice A1 s.ins.length k1, .slice A2 s.outs.length k2, .int .u64 (s.fee : Int), .int .i64 s.exp] 28 (0, 0)) := by rw [hw0]; exact heap_alloc2_old _ _ _
  have hg1 : w0.heap[w.heap.size + 1]? = some (.cells #[.slice A3 t.ins.length k3, .slice A4 t.outs.length k4, .int .u64 (t.fee : Int), .int .i64 t.exp] 28 (0, 0)) := by rw [hw0]; exact heap_alloc2_new _ _ _
  have CF := Lib.hid (fun (m : Nat) => show (w0.drewN m).cell? ⟨w.heap.size, 0, none⟩ = some (.slice A1 s.ins.length k1) ∧ (w0.drewN m).cell? ⟨w.heap.size, 1, none⟩ = some (.slice A2 s.outs.length k2) ∧ (w0.drewN m).cell? ⟨w.heap.size + 1, 0, none⟩ = some (.slice A3 t.ins.length k3) ∧ (w0.drewN m).cell? ⟨w.heap.size + 1, 1, none⟩ = some (.slice A4 t.outs.length k4) from
    ⟨(row4 hg0).1.1, (row4 hg0).1.2.1, (row4 hg1).1.1, (row4 hg1).1.2.1⟩)
  obtain ⟨⟨c0, c1, c2, c3⟩, -⟩ := row4 hg0
  obtain ⟨⟨d0, d1, d2, d3⟩, -⟩ := row4 hg1
  have im := h.im
  have om := h.om
  have im' := h'.im
  have om' := h'.om
  unfold maxLen at im om im' om'
  have x0 := h.x0
  have x1 := h.x1
  have y0 := h'.x0
  have y1 := h'.x1
  have hf := h.fee
  have hf' := h'.fee
  have I1 := Lib.hid (h.ins.turn hT0 (fun _ _ h => h))
  have I2 := Lib.hid (h'.ins.turn hT0 (fun _ _ h => h))
  have O1 := Lib.hid (h.outs.turn hT0 (fun _ _ h => h))
  have O2 := Lib.hid (h'.outs.turn hT0 (fun _ _ h => h))
  have HT0 := Lib.hid hT0
  have SL := Lib.hid (@same_len s t)
  have SI := Lib.hid (fun (k : Nat) (hs : k < s.ins.length) (ht : k < t.ins.length) (h : ¬ s.ins[k] = t.ins[k]) => same_in hs ht h)
  have SO := Lib.hid (fun (k : Nat) (hs : k < s.outs.length) (ht : k < t.outs.length) (h : ¬ s.outs[k] = t.outs[k]) => same_out hs ht h)
  have SA := Lib.hid (@same_all s t)
  unfold txV
  generalize sameB s t = rr at *
  clear h h' hT0 hg0 hg1
  by_cases hl : s.ins.length = t.ins.length ∧ s.outs.length = t.outs.length ∧ s.fee = t.fee ∧ s.exp = t.exp
  · obtain ⟨hl1, hl2, hl3, hl4⟩ := hl
    have t1 : ((s.ins.length : Int) != (t.ins.length : Int)) = false := by rw [hl1]; simp
    have t2 : ((s.outs.length : Int) != (t.outs.length : Int)) = false := by rw [hl2]; simp
    have t3 : ((s.fee : Int) != (t.fee : Int)) = false := by rw [hl3]; simp
    have t4 : (s.exp != t.exp) = false := by rw [hl4]; simp
    have HL1 := Lib.hid hl1
    have HL2 := Lib.hid hl2
    have HL3 := Lib.hid hl3
    have HL4 := Lib.hid hl4
    clear hl1 hl2 hl3 hl4
    go_enter Try.func7, Try.ntmps7
    go_upto_region 1 with fail
    change Code.wp _ _ _ _ ((w.alloc (.cells #[.slice A1 s.ins.length k1, .slice A2 s.outs.length k2, .int .u64 (s.fee : Int), .int .i64 s.exp] 28)).alloc (.cells #[.slice A3 t.ins.length k3, .slice A4 t.outs.length k4, .int .u64 (t.fee : Int), .int .i64 t.exp] 28))
    rw [← hw0]
    clear hw0
    go_wp2
    clear c0 c1 c2 c3 d0 d1 d2 d3
    go_loopw [5] (fun i wr => ∃ k m : Nat, k ≤ s.ins.length ∧ i = .int .i64 k ∧ s.ins.take k = t.ins.take k ∧ wr = w0.drewN m) (fun i _ => s.ins.length - (intOf i).toNat)
    case atStart => exact ⟨0, 0, Nat.zero_le _, rfl, rfl, rfl⟩
    case round =>
      obtain ⟨k, m, hk, rfl, htk, rfl⟩ := hrel
      obtain ⟨c0, c1, d0, d1⟩ := CF.out m
      have HTK := Lib.hid htk
      by_cases hlt : k < s.ins.length
      · have hlt' : k < t.ins.length := by have := HL1.out; omega
        obtain ⟨hokp, b, o, S, cp, rfl, -, hsp, hrp⟩ := I1.out k s.ins[k] (List.getElem?_eq_getElem hlt)
        obtain ⟨hokq, b', o', S', cq, rfl, -, hsq, hrq⟩ := I2.out k t.ins[k] (List.getElem?_eq_getElem hlt')
        have rp := Pin.ptAt hrp hokp.d
        have rq := Pin.ptAt hrq hokq.d
        obtain ⟨-, p33, p34⟩ := Pin.rc hrp hokp.d
        obtain ⟨-, q33, q34⟩ := Pin.rc hrq hokq.d
        have HNO := Lib.hid (fun hne => SI.out k hlt hlt' hne)
        have HYES := Lib.hid (fun hne => take_next hlt hlt' HTK.out hne)
        obtain ⟨p, hp⟩ : ∃ p, p = s.ins[k] := ⟨_, rfl⟩
        obtain ⟨q, hq⟩ : ∃ q, q = t.ins[k] := ⟨_, rfl⟩
        rw [← hp] at hokp rp p33 p34 hsp HNO HYES
        rw [← hq] at hokq rq q33 q34 hsq HNO HYES
        have hne := neq_point p q hokp.d hokq.d
        obtain ⟨PP, hPP⟩ : ∃ PP, PP = (recV p.d (.int .i64 p.x)).toArray := ⟨_, rfl⟩
        obtain ⟨PQ, hPQ⟩ : ∃ PQ, PQ = (recV q.d (.int .i64 q.x)).toArray := ⟨_, rfl⟩
        rw [← hPP] at rp hne
        rw [← hPQ] at rq hne
        obtain ⟨w1, hw1⟩ : ∃ w1, w1 = w0.drewN m := ⟨_, rfl⟩
        rw [← hw1] at c0 c1 d0 d1 ⊢
        have HW1 := Lib.hid hw1
        have rp1 : rowOf w1 b (o + k * 35) 33 = some PP := by rw [hw1]; exact rp
        have rq1 : rowOf w1 b' (o' + k * 35) 33 = some PQ := by rw [hw1]; exact rq
        have p33 : w1.cell? ⟨b, o + k * 35 + 33, none⟩ = some (.int .u64 (p.n : Int)) := by rw [hw1]; exact p33
        have p34 : w1.cell? ⟨b, o + k * 35 + 34, none⟩ = some (.slice S p.b.length cp) := by rw [hw1]; exact p34
        have q33 : w1.cell? ⟨b', o' + k * 35 + 33, none⟩ = some (.int .u64 (q.n : Int)) := by rw [hw1]; exact q33
        have q34 : w1.cell? ⟨b', o' + k * 35 + 34, none⟩ = some (.slice S' q.b.length cq) := by rw [hw1]; exact q34
        have RB := Lib.hid (fun (n : Nat) => rbytes_any S S' cp cq _ _ p.b q.b (w1.drewN n) (show Sl (w1.drewN n) B S (p.b.map bv) by rw [hw1]; exact hsp.s) (show Sl (w1.drewN n) B S' (q.b.map bv) by rw [hw1]; exact hsq.s) hokp.m hokq.m)
        have HPE := Lib.hid (fun h1 h2 h3 => @pin_eq p q h1 h2 h3)
        have HPX := Lib.hid (fun (e : p = q) => show samePt p q = true ∧ p.n = q.n ∧ p.b = q.b by subst e; exact ⟨by simp [samePt], rfl, rfl⟩)
        clear hokp hokq hrp hrq hsp hsq hp hq hPP hPQ hw1 htk
        have hpn : ((p.n : Int) != (q.n : Int)) = !(decide (p.n = q.n)) := by rw [Bool.eq_iff_iff]; simp; omega
        generalize hs1 : samePt p q = s1 at *
        generalize hs2 : decide (p.n = q.n) = s2 at *
        generalize hs3 : decide (p.b = q.b) = s3 at *
        cases s1
        · have HR := Lib.hid (HNO.out (fun e => by have := (HPX.out e).1; cases this))
          clear hs1 hs2 hs3
          go_wp2
          go_quiet (fail)
          go_wp2
          go_ret
          exact ⟨ret_bool HR.out.symm, (by rw [HW1.out]; exact (HT0.out.drewN m).drewN nq)⟩
        · cases s2
          · have HR := Lib.hid (HNO.out (fun e => by have := (HPX.out e).2.1; simp [this] at hs2))
            clear hs1 hs2 hs3
            go_wp2
            go_quiet (fail)
            go_wp2
            go_ret
            exact ⟨ret_bool HR.out.symm, (by rw [HW1.out]; exact (HT0.out.drewN m).drewN nq)⟩
          · cases s3
            · have HR := Lib.hid (HNO.out (fun e => by have := (HPX.out e).2.2; simp [this] at hs3))
              clear hs1 hs2 hs3
              go_wp2
              go_quiet ((go_at_call 19; exact Calls.quiet_of (RB.out _)))
              go_wp2
              go_ret
              exact ⟨ret_bool HR.out.symm, (by rw [HW1.out]; exact (HT0.out.drewN m).drewN nq)⟩
            · have HR := Lib.hid (HYES.out (HPE.out rfl (by simpa using hs2) (by simpa using hs3)))
              clear hs1 hs2 hs3
              go_wp2
              go_quiet ((go_at_call 19; exact Calls.quiet_of (RB.out _)))
              go_wp2
              go_roundw
              case rel => exact ⟨k + 1, m + nq, by omega, by go_num, HR.out, by rw [HW1.out, drewN_add]⟩
              case measure => simp [intOf]; omega
      · obtain rfl : k = s.ins.length := by omega
        have HIN := Lib.hid (show s.ins = t.ins by
          have h1 := HTK.out
          rw [List.take_length, HL1.out, List.take_length] at h1
          exact h1)
        clear htk
        obtain ⟨w1, hw1⟩ : ∃ w1, w1 = w0.drewN m := ⟨_, rfl⟩
        rw [← hw1] at c0 c1 d0 d1 ⊢
        have HW1 := Lib.hid hw1
        clear hw1
        go_wp2
        clear c0 c1 d0 d1
        go_loopw [6] (fun i wr => ∃ k m : Nat, k ≤ s.outs.length ∧ i = .int .i64 k ∧ s.outs.take k = t.outs.take k ∧ wr = w0.drewN m) (fun i _ => s.outs.length - (intOf i).toNat)
        case atStart => exact ⟨0, m, Nat.zero_le _, rfl, rfl, HW1.out⟩
        case round =>
          obtain ⟨k, m2, hk, rfl, htk, rfl⟩ := hrel
          obtain ⟨c0, c1, d0, d1⟩ := CF.out m2
          have HTK2 := Lib.hid htk
          by_cases hlt : k < s.outs.length
          · have hlt' : k < t.outs.length := by have := HL2.out; omega
            obtain ⟨hokp, b, o, rfl, -, hrp⟩ := O1.out k s.outs[k] (List.getElem?_eq_getElem hlt)
            obtain ⟨hokq, b', o', rfl, -, hrq⟩ := O2.out k t.outs[k] (List.getElem?_eq_getElem hlt')
            have rp := Pout.rowAt hrp hokp.d
            have rq := Pout.rowAt hrq hokq.d
            have HNO := Lib.hid (fun hne => SO.out k hlt hlt' hne)
            have HYES := Lib.hid (fun hne => take_next hlt hlt' HTK2.out hne)
            obtain ⟨p, hp⟩ : ∃ p, p = s.outs[k] := ⟨_, rfl⟩
            obtain ⟨q, hq⟩ : ∃ q, q = t.outs[k] := ⟨_, rfl⟩
            rw [← hp] at hokp rp HNO HYES
            rw [← hq] at hokq rq HNO HYES
            have hne := neq_out p q hokp.d hokq.d
            obtain ⟨PP, hPP⟩ : ∃ PP, PP = (recV p.d (.int .u64 (p.n : Int))).toArray := ⟨_, rfl⟩
            obtain ⟨PQ, hPQ⟩ : ∃ PQ, PQ = (recV q.d (.int .u64 (q.n : Int))).toArray := ⟨_, rfl⟩
            rw [← hPP] at rp hne
            rw [← hPQ] at rq hne
            obtain ⟨w2, hw2⟩ : ∃ w2, w2 = w0.drewN m2 := ⟨_, rfl⟩
            rw [← hw2] at c0 c1 d0 d1 ⊢
            have HW2 := Lib.hid hw2
            have rp1 : rowOf w2 b (o + k * 33) 33 = some PP := by rw [hw2]; exact rp
            have rq1 : rowOf w2 b' (o' + k * 33) 33 = some PQ := by rw [hw2]; exact rq
            clear hokp hokq hrp hrq hp hq hPP hPQ hw2 htk
            by_cases hpq : p = q
            · have HR := Lib.hid (HYES.out hpq)
              rw [show decide (p = q) = true by simp [hpq]] at hne
              clear hpq
              go_wp2
              go_quiet (fail)
              go_wp2
              go_roundw
              case rel => exact ⟨k + 1, m2 + nq, by omega, by go_num, HR.out, by rw [HW2.out, drewN_add]⟩
              case measure => simp [intOf]; omega
            · have HR := Lib.hid (HNO.out hpq)
              rw [show decide (p = q) = false by simp [hpq]] at hne
              clear hpq
              go_wp2
              go_quiet (fail)
              go_wp2
              go_ret
              exact ⟨ret_bool HR.out.symm, (by rw [HW2.out]; exact (HT0.out.drewN m2).drewN nq)⟩
          · obtain rfl : k = s.outs.length := by omega
            have HOU := Lib.hid (show s.outs = t.outs by
              have h1 := HTK2.out
              rw [List.take_length, HL2.out, List.take_length] at h1
              exact h1)
            have HR := Lib.hid (SA.out HIN.out HOU.out HL3.out HL4.out)
            clear htk
            go_wp2
            go_ret
            exact ⟨ret_bool HR.out.symm, HT0.out.drewN m2⟩
  · have HR := Lib.hid (SL.out hl)
    have HL := Lib.hid (show ¬ ((s.ins.length : Int) = t.ins.length ∧ (s.outs.length : Int) = t.outs.length ∧ (s.fee : Int) = t.fee ∧ s.exp = t.exp) from fun h => hl ⟨by omega, by omega, by omega, h.2.2.2⟩)
    clear SI SO SL SA CF I1 I2 O1 O2 hl
    generalize s.ins.length = n1 at *
    generalize s.outs.length = n2 at *
    generalize s.fee = n3 at *
    generalize s.exp = n4 at *
    generalize t.ins.length = m1 at *
    generalize t.outs.length = m2 at *
    generalize t.fee = m3 at *
    generalize t.exp = m4 at *
    have t4 : (n4 != m4) = decide (n4 ≠ m4) := by rw [Bool.eq_iff_iff]; simp
    by_cases h4 : n4 = m4
    · rw [show decide (n4 ≠ m4) = false by simp [h4]] at t4
      have H4 := Lib.hid h4
      clear h4
      go_enter Try.func7, Try.ntmps7
      go_upto_region 1 with fail
      change Code.wp _ _ _ _ ((w.alloc (.cells #[.slice A1 n1 k1, .slice A2 n2 k2, .int .u64 (n3 : Int), .int .i64 n4] 28)).alloc (.cells #[.slice A3 m1 k3, .slice A4 m2 k4, .int .u64 (m3 : Int), .int .i64 m4] 28))
      rw [← hw0]
      clear hw0
      go_wp2
      all_goals
        first
          | (go_ret; exact ⟨ret_bool HR.out.symm, HT0.out⟩)
          | (exfalso; have := HL.out; have := H4.out; omega)
    · rw [show decide (n4 ≠ m4) = true by simp [h4]] at t4
      have H4 := Lib.hid h4
      clear h4
      go_enter Try.func7, Try.ntmps7
      go_upto_region 1 with fail
      change Code.wp _ _ _ _ ((w.alloc (.cells #[.slice A1 n1 k1, .slice A2 n2 k2, .int .u64 (n3 : Int), .int .i64 n4] 28)).alloc (.cells #[.slice A3 m1 k3, .slice A4 m2 k4, .int .u64 (m3 : Int), .int .i64 m4] 28))
      rw [← hw0]
      clear hw0
      go_wp2
      all_goals
        first
          | (go_ret; exact ⟨ret_bool HR.out.symm, HT0.out⟩)
          | (exfalso; have := HL.out; have := H4.out; omega)
end Go.Proofs.Yteaoaabjdgdcmaa
