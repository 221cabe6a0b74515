/- The document's Same of items. -/
import Derived.Test.YtgjplbanfnomkaaLnR
set_option linter.unusedVariables false
set_option linter.unusedSimpArgs false
namespace Go.Proofs.Ytgjplbanfnomkaa
open Go.RowKit
set_option maxRecDepth 100000
set_option maxHeartbeats 8000000 in
theorem rsameI_any (A1 A2 : Option Addr) (a1 a2 : Nat) (N N' : Nat → Prop) (s t : List Itm) (w : World) (h : ItN w N A1 s) (h' : ItN w N' A2 t) (hm : s.length ≤ 1000000) (hm' : t.length ≤ 1000000) :
    Calls Try.prog 16 #[.slice A1 s.length a1, .slice A2 t.length a2] w fun e w' => e = .returned (.bool (decide (s = t))) ∧ ∃ n, w' = w.drewN n := by
  have I1 := Lib.hid h
  have I2 := Lib.hid h'
  obtain ⟨rr, hrr⟩ : ∃ rr, rr = decide (s = t) := ⟨_, rfl⟩
  rw [← hrr]
  have HRR := Lib.hid hrr
  clear h h' hrr
  obtain ⟨n1, hn1⟩ : ∃ n, n = s.length := ⟨_, rfl⟩
  obtain ⟨n2, hn2⟩ : ∃ n, n = t.length := ⟨_, rfl⟩
  rw [← hn1] at hm ⊢
  rw [← hn2] at hm' ⊢
  have HN := Lib.hid (And.intro hn1 hn2)
  clear hn1 hn2
  by_cases hl : n1 = n2
  · subst hl
    have f7 : ((n1 : Int) != (n1 : Int)) = false := by simp
    go_enter Try.func16, Try.ntmps16
    go_wp2
    go_loopw [5] (fun i wr => ∃ k m : Nat, k ≤ n1 ∧ i = .int .i64 k ∧ s.take k = t.take k ∧ wr = w.drewN m) (fun i _ => n1 - (intOf i).toNat)
    case atStart => exact ⟨0, 0, Nat.zero_le _, rfl, rfl, rfl⟩
    case round =>
      obtain ⟨k, m, hk, rfl, htk, rfl⟩ := hrel
      have HTK := Lib.hid htk
      by_cases hlt : k < n1
      · have hs' : k < s.length := by have := HN.out.1; omega
        have ht' : k < t.length := by have := HN.out.2; omega
        obtain ⟨hokp, b, o, S, cp, rfl, -, hsp, p0, p1⟩ := I1.out k s[k] (List.getElem?_eq_getElem hs')
        obtain ⟨hokq, b', o', S', cq, rfl, -, hsq, q0, q1⟩ := I2.out k t[k] (List.getElem?_eq_getElem ht')
        have HNO := Lib.hid (fun (hne : ¬ s[k] = t[k]) => show rr = false by rw [HRR.out, decide_eq_false_iff_not]; rintro rfl; exact hne rfl)
        have HYES := Lib.hid (fun hne => take_next hs' ht' HTK.out hne)
        obtain ⟨p, hp⟩ : ∃ p, p = s[k] := ⟨_, rfl⟩
        obtain ⟨q, hq⟩ : ∃ q, q = t[k] := ⟨_, rfl⟩
        rw [← hp] at hokp p0 p1 hsp HNO HYES
        rw [← hq] at hokq q0 q1 hsq HNO HYES
        obtain ⟨w1, hw1⟩ : ∃ w1, w1 = w.drewN m := ⟨_, rfl⟩
        rw [← hw1]
        have HW1 := Lib.hid hw1
        have p0 : w1.cell? ⟨b, o + k * 2, none⟩ = some (.int .i64 p.t) := by rw [hw1]; exact p0
        have p1 : w1.cell? ⟨b, o + k * 2 + 1, none⟩ = some (.slice S p.b.length cp) := by rw [hw1]; exact p1
        have q0 : w1.cell? ⟨b', o' + k * 2, none⟩ = some (.int .i64 q.t) := by rw [hw1]; exact q0
        have q1 : w1.cell? ⟨b', o' + k * 2 + 1, none⟩ = some (.slice S' q.b.length cq) := by rw [hw1]; exact q1
        have RB := Lib.hid (fun (n : Nat) => rbytes_any S S' cp cq _ _ p.b q.b (w1.drewN n) (show Sl (w1.drewN n) w.heap.size S (p.b.map bv) by rw [hw1]; exact hsp.s.sl) (show Sl (w1.drewN n) w.heap.size S' (q.b.map bv) by rw [hw1]; exact hsq.s.sl) hokp.m hokq.m)
        have HPE := Lib.hid (fun h1 h2 => @Itm.ext p q h1 h2)
        have HPX := Lib.hid (fun (e : p = q) => show p.t = q.t ∧ p.b = q.b by subst e; exact ⟨rfl, rfl⟩)
        clear hokp hokq hsp hsq hp hq hw1 htk
        have hpn : (p.t != q.t) = !(decide (p.t = q.t)) := by rw [Bool.eq_iff_iff]; simp
        generalize hs2 : decide (p.t = q.t) = s2 at *
        generalize hs3 : decide (p.b = q.b) = s3 at *
        cases s2
        · have HR := Lib.hid (HNO.out (fun e => by have := (HPX.out e).1; simp [this] at hs2))
          clear hs2 hs3
          go_wp2
          go_quiet (fail)
          go_wp2
          go_ret
          exact ⟨ret_bool HR.out.symm, m + nq, by rw [HW1.out, drewN_add]⟩
        · cases s3
          · have HR := Lib.hid (HNO.out (fun e => by have := (HPX.out e).2; simp [this] at hs3))
            clear hs2 hs3
            go_wp2
            go_quiet ((go_at_call 27; exact Calls.quiet_of (RB.out _)))
            go_wp2
            go_ret
            exact ⟨ret_bool HR.out.symm, m + nq, by rw [HW1.out, drewN_add]⟩
          · have HR := Lib.hid (HYES.out (HPE.out (by simpa using hs2) (by simpa using hs3)))
            clear hs2 hs3
            go_wp2
            go_quiet ((go_at_call 27; exact Calls.quiet_of (RB.out _)))
            go_wp2
            go_roundw
            case rel => exact ⟨k + 1, m + nq, by omega, by go_num, HR.out, by rw [HW1.out, drewN_add]⟩
            case measure => simp [intOf]; omega
      · obtain rfl : k = n1 := by omega
        have HR := Lib.hid (show rr = true by
          rw [HRR.out, decide_eq_true_eq]
          have h1 := HTK.out
          rw [List.take_of_length_le (by have := HN.out.1; omega), List.take_of_length_le (by have := HN.out.2; omega)] at h1
          exact h1)
        clear htk
        go_wp2
        go_ret
        exact ⟨ret_bool HR.out.symm, m, rfl⟩
  · have HR := Lib.hid (show rr = false by rw [HRR.out, decide_eq_false_iff_not]; rintro rfl; exact hl (HN.out.1.trans HN.out.2.symm))
    have f7 : ((n1 : Int) != (n2 : Int)) = true := by rw [bne_iff_ne]; omega
    clear HN I1 I2
    go_enter Try.func16, Try.ntmps16
    go_wp2
    go_ret
    exact ⟨ret_bool HR.out.symm, 0, rfl⟩
end Go.Proofs.Ytgjplbanfnomkaa
