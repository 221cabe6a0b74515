/- Merged: The document's Same of letters. The document's Put of letters: form. -/
import Derived.Test.YtaicpclkdpbacaaLtE
import Derived.Deep.AppendLies
import Derived.Deep.RegionLaw
namespace Go.Proofs.Ytaicpclkdpbacaa
section
set_option linter.unusedVariables false
set_option linter.unusedSimpArgs false

open Go.RowKit
def sameL (s t : Ltr) : Bool := decide (s = t)
theorem same_no {s t : Ltr} (h : ¬ (s.k = t.k ∧ s.t = t.t ∧ s.x = t.x ∧ s.y = t.y ∧ s.z = t.z ∧ s.s = t.s ∧ s.its.length = t.its.length ∧ s.b = t.b)) : sameL s t = false := by
  unfold sameL; rw [decide_eq_false_iff_not]; rintro rfl; exact h ⟨rfl, rfl, rfl, rfl, rfl, rfl, rfl, rfl⟩
theorem same_it {s t : Ltr} {k : Nat} (hs : k < s.its.length) (ht : k < t.its.length) (h : ¬ s.its[k] = t.its[k]) : sameL s t = false := by
  unfold sameL; rw [decide_eq_false_iff_not]; rintro rfl; exact h rfl
theorem same_yes {s t : Ltr} (h : s.k = t.k ∧ s.t = t.t ∧ s.x = t.x ∧ s.y = t.y ∧ s.z = t.z ∧ s.s = t.s ∧ s.its = t.its ∧ s.b = t.b) : sameL s t = true := by
  unfold sameL; rw [decide_eq_true_eq]; exact Ltr.ext h
theorem BtN.sl {w : World} {N : Nat → Prop} {S : Option Addr} {c : Nat} {b : List B8} (h : BtN w N S c b) : Sl w w.heap.size S (b.map bv) := h.s.sl
set_option maxRecDepth 100000 in
set_option maxHeartbeats 8000000 in
theorem rsame_any (A1 S1 A2 S2 : Option Addr) (a1 s1 a2 s2 : Nat) (N : Nat → Prop) (s t : Ltr) (w : World) (h : LtN w N A1 a1 S1 s1 s) (h' : LtN w N A2 a2 S2 s2 t) :
    Calls Try.prog 15 #[ltV A1 a1 S1 s1 s, ltV A2 a2 S2 s2 t] w fun e w' => e = .returned (.bool (sameL s t)) ∧ Turn (fun _ => False) w w' := by
  obtain ⟨w0, hw0⟩ : ∃ w0, w0 = (w.alloc (.cells (ltC A1 a1 S1 s1 s) 25)).alloc (.cells (ltC A2 a2 S2 s2 t) 25) := ⟨_, rfl⟩
  have hT0 : Turn (fun _ => False) w w0 := by rw [hw0]; exact ((Turn.refl _ _).alloc _).alloc _
  have hg0 : LBx w0 w.heap.size A1 a1 S1 s1 s := by rw [hw0]; exact heap_alloc2_old _ _ _
  have hg1 : LBx w0 (w.heap.size + 1) A2 a2 S2 s2 t := by rw [hw0]; exact heap_alloc2_new _ _ _
  have CF := Lib.hid (fun (m : Nat) => And.intro (LBx.cells (show LBx (w0.drewN m) w.heap.size A1 a1 S1 s1 s from hg0)) (LBx.cells (show LBx (w0.drewN m) (w.heap.size + 1) A2 a2 S2 s2 t from hg1)))
  obtain ⟨c0, c1, c2, c3, c4, c5, c6, c7⟩ := hg0.cells
  obtain ⟨d0, d1, d2, d3, d4, d5, d6, d7⟩ := hg1.cells
  have im := h.im
  have bm := h.bm
  have im' := h'.im
  have bm' := h'.bm
  unfold maxLen at im bm im' bm'
  have I1 := Lib.hid (h.its.quiet hT0)
  have I2 := Lib.hid (h'.its.quiet hT0)
  have RB0 := Lib.hid (rbytes_any S1 S2 s1 s2 _ _ s.b t.b w0 (h.b.quiet hT0).sl (h'.b.quiet hT0).sl h.bm h'.bm)
  have HT0 := Lib.hid hT0
  have SN := Lib.hid (@same_no s t)
  have SI := Lib.hid (fun (k : Nat) (hs : k < s.its.length) (ht : k < t.its.length) (h : ¬ s.its[k] = t.its[k]) => same_it hs ht h)
  have SA := Lib.hid (@same_yes s t)
  generalize sameL s t = rr at *
  clear h h' hT0 hg0 hg1
  by_cases hl : s.k = t.k ∧ s.t = t.t ∧ s.x = t.x ∧ s.y = t.y ∧ s.z = t.z ∧ s.s = t.s ∧ s.its.length = t.its.length
  · obtain ⟨l1, l2, l3, l4, l5, l6, l7⟩ := hl
    have f1 : (s.k != t.k) = false := by rw [l1]; simp
    have f2 : (s.t != t.t) = false := by rw [l2]; simp
    have f3 : (s.x != t.x) = false := by rw [l3]; simp
    have f4 : (s.y != t.y) = false := by rw [l4]; simp
    have f5 : (s.z != t.z) = false := by rw [l5]; simp
    have f6 : (s.s == t.s) = true := by rw [l6]; simp
    have f7 : ((s.its.length : Int) != (t.its.length : Int)) = false := by rw [l7]; simp
    have HLL := Lib.hid (And.intro l1 (And.intro l2 (And.intro l3 (And.intro l4 (And.intro l5 (And.intro l6 l7))))))
    clear l1 l2 l3 l4 l5 l6 l7
    by_cases hb : s.b = t.b
    · have HB := Lib.hid hb
      rw [decide_eq_true hb] at RB0
      clear hb
      go_enter Try.func15, Try.ntmps15
      go_upto_region 1 with fail
      change Code.wp _ _ _ _ ((w.alloc (.cells (ltC A1 a1 S1 s1 s) 25)).alloc (.cells (ltC A2 a2 S2 s2 t) 25))
      rw [← hw0]
      clear hw0
      go_wp2_with (go_at_call 13; refine RB0.out.mono ?_; rintro r w9 ⟨rfl, n9, hw9⟩; rw [hw9]; clear hw9 w9)
      clear c0 c1 c2 c3 c4 c5 c6 c7 d0 d1 d2 d3 d4 d5 d6 d7 RB0 f1 f2 f3 f4 f5 f6 f7
      go_loopw [5] (fun i wr => ∃ k m : Nat, k ≤ s.its.length ∧ i = .int .i64 k ∧ s.its.take k = t.its.take k ∧ wr = w0.drewN m) (fun i _ => s.its.length - (intOf i).toNat)
      case atStart => exact ⟨0, n9, Nat.zero_le _, rfl, rfl, rfl⟩
      case round =>
        obtain ⟨k, m, hk, rfl, htk, rfl⟩ := hrel
        obtain ⟨⟨c0, c1, c2, c3, c4, c5, c6, c7⟩, ⟨d0, d1, d2, d3, d4, d5, d6, d7⟩⟩ := CF.out m
        clear c0 c1 c2 c3 c4 c5 c7 d0 d1 d2 d3 d4 d5 d7
        have HTK := Lib.hid htk
        by_cases hlt : k < s.its.length
        · have hlt' : k < t.its.length := by have := HLL.out.2.2.2.2.2.2; omega
          obtain ⟨hokp, b, o, S, cp, rfl, -, hsp, p0, p1⟩ := I1.out k s.its[k] (List.getElem?_eq_getElem hlt)
          obtain ⟨hokq, b', o', S', cq, rfl, -, hsq, q0, q1⟩ := I2.out k t.its[k] (List.getElem?_eq_getElem hlt')
          have HNO := Lib.hid (fun hne => SI.out k hlt hlt' hne)
          have HYES := Lib.hid (fun hne => take_next hlt hlt' HTK.out hne)
          obtain ⟨p, hp⟩ : ∃ p, p = s.its[k] := ⟨_, rfl⟩
          obtain ⟨q, hq⟩ : ∃ q, q = t.its[k] := ⟨_, rfl⟩
          rw [← hp] at hokp p0 p1 hsp HNO HYES
          rw [← hq] at hokq q0 q1 hsq HNO HYES
          obtain ⟨w1, hw1⟩ : ∃ w1, w1 = w0.drewN m := ⟨_, rfl⟩
          rw [← hw1] at c6 d6 ⊢
          have HW1 := Lib.hid hw1
          have p0 : w1.cell? ⟨b, o + k * 2, none⟩ = some (.int .i64 p.t) := by rw [hw1]; exact p0
          have p1 : w1.cell? ⟨b, o + k * 2 + 1, none⟩ = some (.slice S p.b.length cp) := by rw [hw1]; exact p1
          have q0 : w1.cell? ⟨b', o' + k * 2, none⟩ = some (.int .i64 q.t) := by rw [hw1]; exact q0
          have q1 : w1.cell? ⟨b', o' + k * 2 + 1, none⟩ = some (.slice S' q.b.length cq) := by rw [hw1]; exact q1
          have RB := Lib.hid (fun (n : Nat) => rbytes_any S S' cp cq _ _ p.b q.b (w1.drewN n) (show Sl (w1.drewN n) w0.heap.size S (p.b.map bv) by rw [hw1]; exact hsp.sl) (show Sl (w1.drewN n) w0.heap.size S' (q.b.map bv) by rw [hw1]; exact hsq.sl) hokp.m hokq.m)
          have HPE := Lib.hid (fun h1 h2 => @Itm.ext p q h1 h2)
          have HPX := Lib.hid (fun (e : p = q) => show p.t = q.t ∧ p.b = q.b by subst e; exact ⟨rfl, rfl⟩)
          clear hokp hokq hsp hsq hp hq hw1 htk
          have hpn : (p.t != q.t) = !(decide (p.t = q.t)) := by rw [Bool.eq_iff_iff]; simp
          generalize hs2 : decide (p.t = q.t) = s2 at *
          generalize hs3 : decide (p.b = q.b) = s3 at *
          cases s2
          · have HR := Lib.hid (HNO.out (fun e => by have := (HPX.out e).1; simp [this] at hs2))
            clear hs2 hs3
            go_wp2
            go_quiet (fail)
            go_wp2
            go_ret
            exact ⟨ret_bool HR.out.symm, (by rw [HW1.out]; exact (HT0.out.drewN m).drewN nq)⟩
          · cases s3
            · have HR := Lib.hid (HNO.out (fun e => by have := (HPX.out e).2; simp [this] at hs3))
              clear hs2 hs3
              go_wp2
              go_quiet ((go_at_call 13; exact Calls.quiet_of (RB.out _)))
              go_wp2
              go_ret
              exact ⟨ret_bool HR.out.symm, (by rw [HW1.out]; exact (HT0.out.drewN m).drewN nq)⟩
            · have HR := Lib.hid (HYES.out (HPE.out (by simpa using hs2) (by simpa using hs3)))
              clear hs2 hs3
              go_wp2
              go_quiet ((go_at_call 13; exact Calls.quiet_of (RB.out _)))
              go_wp2
              go_roundw
              case rel => exact ⟨k + 1, m + nq, by omega, by go_num, HR.out, by rw [HW1.out, drewN_add]⟩
              case measure => simp [intOf]; omega
        · obtain rfl : k = s.its.length := by omega
          have HR := Lib.hid (SA.out (by
            have h1 := HTK.out
            obtain ⟨l1, l2, l3, l4, l5, l6, l7⟩ := HLL.out
            rw [List.take_length, l7, List.take_length] at h1
            exact ⟨l1, l2, l3, l4, l5, l6, h1, HB.out⟩))
          clear htk
          go_wp2
          go_ret
          exact ⟨ret_bool HR.out.symm, HT0.out.drewN m⟩
    · have HR := Lib.hid (SN.out (fun h => hb h.2.2.2.2.2.2.2))
      rw [decide_eq_false hb] at RB0
      clear hb
      go_enter Try.func15, Try.ntmps15
      go_upto_region 1 with fail
      change Code.wp _ _ _ _ ((w.alloc (.cells (ltC A1 a1 S1 s1 s) 25)).alloc (.cells (ltC A2 a2 S2 s2 t) 25))
      rw [← hw0]
      clear hw0
      go_wp2_with (go_at_call 13; refine RB0.out.mono ?_; rintro r w9 ⟨rfl, n9, hw9⟩; rw [hw9]; clear hw9 w9)
      go_ret
      exact ⟨ret_bool HR.out.symm, HT0.out.drewN n9⟩
  · have HR := Lib.hid (SN.out (fun h => hl ⟨h.1, h.2.1, h.2.2.1, h.2.2.2.1, h.2.2.2.2.1, h.2.2.2.2.2.1, h.2.2.2.2.2.2.1⟩))
    have HL := Lib.hid (show ¬ (s.k = t.k ∧ s.t = t.t ∧ s.x = t.x ∧ s.y = t.y ∧ s.z = t.z ∧ s.s = t.s ∧ (s.its.length : Int) = t.its.length) from fun h => hl ⟨h.1, h.2.1, h.2.2.1, h.2.2.2.1, h.2.2.2.2.1, h.2.2.2.2.2.1, by omega⟩)
    clear SN SI SA CF I1 I2 hl RB0
    go_enter Try.func15, Try.ntmps15
    go_upto_region 1 with fail
    change Code.wp _ _ _ _ ((w.alloc (.cells (ltC A1 a1 S1 s1 s) 25)).alloc (.cells (ltC A2 a2 S2 s2 t) 25))
    rw [← hw0]
    clear hw0
    go_wp2_with (go_at_call 13; exfalso; apply HL.out; refine ⟨?_, ?_, ?_, ?_, ?_, ?_, ?_⟩ <;> first | assumption | omega)
    all_goals
      go_ret
      exact ⟨ret_bool HR.out.symm, HT0.out⟩

end
section
set_option linter.unusedVariables false
set_option linter.unusedSimpArgs false

open Go.RowKit
def itF (p : Itm) : List B8 := numB p.t.toNat ++ (numB p.b.length ++ p.b)
def itsF (l : List Itm) : List B8 := (l.map itF).flatten
def headF (k t : Nat) : List B8 := numB k ++ numB t
def formL (l : Ltr) : List B8 :=
  headF l.k.toNat l.t.toNat ++
  (if l.k = 1 then numB l.x.toNat ++ numB l.y.toNat
  else if l.k = 2 then numB (yesN l.s)
  else if l.k = 3 then numB l.x.toNat ++ (numB l.y.toNat ++ (numB l.z.toNat ++ (numB l.its.length ++ itsF l.its)))
  else if l.k = 4 then numB (yesN l.s) ++ (numB l.x.toNat ++ numB l.z.toNat)
  else numB l.x.toNat ++ (numB l.y.toNat ++ (numB l.b.length ++ l.b)))
theorem itsF_succ {l : List Itm} {k : Nat} (h : k < l.length) : itsF (l.take (k + 1)) = itsF (l.take k) ++ itF l[k] := by
  unfold itsF
  rw [List.take_succ_eq_append_getElem h, List.map_append, List.flatten_append]
  simp
theorem okL_parts {l : Ltr} (h : okL l = true) : (1 ≤ l.k ∧ l.k ≤ 5 ∧ inP l.t ∧ inP l.x ∧ inP l.y ∧ inP l.z ∧ l.its.length ≤ 16 ∧ l.b.length ≤ 65536) ∧ (∀ p ∈ l.its, inP p.t ∧ p.b.length ≤ 8192) ∧ ((l.k = 2 → l.x = 0) ∧ (l.k = 2 ∨ l.k = 4 → l.y = 0) ∧ (l.k ≠ 3 ∧ l.k ≠ 4 → l.z = 0) ∧ (l.k ≠ 2 ∧ l.k ≠ 4 → l.s = false) ∧ (l.k ≠ 3 → l.its.length = 0) ∧ (l.k ≠ 5 → l.b.length = 0)) := by
  unfold okL hdB usB at h
  simp only [Bool.and_eq_true, decide_eq_true_eq, List.all_eq_true] at h
  refine ⟨h.1, fun p hp => ?_, h.2.2⟩
  have := h.2.1 p hp
  unfold okI at this
  simpa only [Bool.and_eq_true, decide_eq_true_eq] using this
theorem itF_le {p : Itm} (h : inP p.t ∧ p.b.length ≤ 8192) : (itF p).length ≤ 8210 := by
  have h1 := numB_le (n := p.t.toNat) (by have := h.1; unfold inP at this; omega)
  have h2 := numB_le (n := p.b.length) (by omega)
  unfold itF
  rw [List.length_append, List.length_append]; omega
theorem itsF_le {l : List Itm} (h : ∀ p ∈ l, inP p.t ∧ p.b.length ≤ 8192) : (itsF l).length ≤ 8210 * l.length := by
  induction l with
  | nil => simp [itsF]
  | cons p l ih =>
    have h1 := itF_le (h p List.mem_cons_self)
    have h2 := ih (fun q hq => h q (List.mem_cons_of_mem _ hq))
    show (itF p ++ itsF l).length ≤ _
    rw [List.length_append, List.length_cons]; omega

end
end Go.Proofs.Ytaicpclkdpbacaa
