/- Merged: The landed line: bounds; items that are not right. The landed line's readers: last, has, place, room, Base. -/
import Derived.Test.YtgjplbanfnomkaaLnB
import Derived.BigRegion
namespace Go.Proofs.Ytgjplbanfnomkaa
section
set_option linter.unusedVariables false
set_option linter.unusedSimpArgs false

open Go.RowKit
theorem within_any (n m : Int) (w : World) : Calls Try.prog 30 #[.int .i64 n, .int .i64 m] w fun r w' => r = .returned (.bool (decide (0 ≤ n ∧ n ≤ m))) ∧ w' = w := by
  have H := Lib.hid (show decide (0 ≤ n ∧ n ≤ m) = (decide (0 ≤ n) && decide (n ≤ m)) by rw [Bool.eq_iff_iff]; simp)
  generalize decide (0 ≤ n ∧ n ≤ m) = r at *
  by_cases h0 : 0 ≤ n
  · have HR := Lib.hid (show decide (n ≤ m) = r by rw [H.out]; simp [h0])
    clear H
    go_enter Try.func30, Try.ntmps30
    go_wp2
    go_ret
    exact ⟨ret_bool HR.out, rfl⟩
  · have HR := Lib.hid (show false = r by rw [H.out]; simp [h0])
    clear H
    go_enter Try.func30, Try.ntmps30
    go_wp2
    go_ret
    exact ⟨ret_bool HR.out, rfl⟩
theorem within_in (n : Int) (w : World) : Calls Try.prog 30 #[.int .i64 n, .int .i64 1099511627776] w fun r w' => r = .returned (.bool (decide (inP n))) ∧ w' = w := by
  have h := within_any n 1099511627776 w
  have e : decide (0 ≤ n ∧ n ≤ 1099511627776) = decide (inP n) := by rw [decide_eq_decide]; exact Iff.rfl
  rwa [e] at h
theorem okIt_in (p : Itm) : okIt p = (decide (inP p.t) && decide (p.b.length ≤ 8192)) := by
  have e : decide (inP p.t) = (decide (0 ≤ p.t) && decide (p.t ≤ MostL)) := by
    rw [Bool.eq_iff_iff, decide_eq_true_iff]; unfold inP MostL; simp only [Bool.and_eq_true, decide_eq_true_eq]
  unfold okIt; rw [e, Bool.and_assoc]
set_option maxRecDepth 100000 in
theorem outside_any (p : Itm) (S : Option Addr) (c : Nat) (w : World) (hm : p.b.length ≤ maxLen) : Calls Try.prog 34 #[.agg #[.int .i64 p.t, .slice S p.b.length c]] w fun r w' => r = .returned (.bool (!okIt p)) ∧ Turn (fun _ => False) w w' := by
  obtain ⟨w0, hw0⟩ : ∃ w0, w0 = w.alloc (.cells #[.int .i64 p.t, .slice S p.b.length c] 36) := ⟨_, rfl⟩
  have hT0 : Turn (fun _ => False) w w0 := by rw [hw0]; exact (Turn.refl _ _).alloc _
  have hg0 : w0.heap[w.heap.size]? = some (.cells #[.int .i64 p.t, .slice S p.b.length c] 36 (0, 0)) := by rw [hw0]; exact heap_alloc_new _ _
  obtain ⟨⟨c0, c1⟩, -⟩ := ys_row hg0
  have HT0 := Lib.hid hT0
  have T := within_in p.t w0
  have HO := Lib.hid (okIt_in p)
  generalize okIt p = R at *
  unfold maxLen at hm
  clear hT0 hg0
  by_cases h1 : inP p.t
  · rw [decide_eq_true h1] at T
    have T := Lib.hid T
    have HR := Lib.hid (show decide ((8192 : Int) < (p.b.length : Int)) = !R by rw [HO.out, decide_eq_true h1, Bool.true_and, Bool.eq_iff_iff]; simp; omega)
    clear h1 HO
    go_enter Try.func34, Try.ntmps34
    go_upto_region 1 with fail
    change Code.wp _ _ _ _ (w.alloc (.cells #[.int .i64 p.t, .slice S p.b.length c] 36))
    rw [← hw0]
    clear hw0
    go_wp2_with (go_at_call 30; refine T.out.mono ?_; rintro r w9 ⟨rfl, hw9⟩; rw [hw9]; clear hw9 w9)
    go_ret
    exact ⟨ret_bool HR.out, HT0.out⟩
  · rw [decide_eq_false h1] at T
    have T := Lib.hid T
    have HR := Lib.hid (show true = !R by rw [HO.out, decide_eq_false h1]; rfl)
    clear h1 HO
    go_enter Try.func34, Try.ntmps34
    go_upto_region 1 with fail
    change Code.wp _ _ _ _ (w.alloc (.cells #[.int .i64 p.t, .slice S p.b.length c] 36))
    rw [← hw0]
    clear hw0
    go_wp2_with (go_at_call 30; refine T.out.mono ?_; rintro r w9 ⟨rfl, hw9⟩; rw [hw9]; clear hw9 w9)
    go_ret
    exact ⟨ret_bool HR.out, HT0.out⟩
def badI (p : Itm) : Bool := !okIt p
set_option maxRecDepth 100000 in
set_option maxHeartbeats 4000000 in
theorem indexBad_any (N : Nat → Prop) (A : Option Addr) (c : Nat) (l : List Itm) (w : World) (hI : ItN w N A l) (hm : l.length ≤ maxLen) :
    Calls Try.prog 60 #[.slice A l.length c, .func (.func 34) #[] #[]] w fun r w' => ∃ z : Int, r = .returned (.int .i64 z) ∧ (0 ≤ z ↔ l.any badI = true) ∧ Turn (fun _ => False) w w' := by
  unfold maxLen at hm
  have HI := Lib.hid hI
  clear hI
  go_enter Try.func60, Try.ntmps60
  go_wp2
  go_loopw [8] (fun i wr => ∃ k : Nat, k ≤ l.length ∧ i = .int .i64 k ∧ (l.take k).any badI = false ∧ Turn (fun _ => False) w wr) (fun i _ => l.length - (intOf i).toNat)
  case atStart => exact ⟨0, Nat.zero_le _, rfl, rfl, Turn.refl _ _⟩
  case round =>
    obtain ⟨k, hk, rfl, ha, ht⟩ := hrel
    have HT := Lib.hid ht
    by_cases hlt : k < l.length
    · obtain ⟨hok, b, o, S, cp, hA, -, -, p0, p1⟩ := (HI.out.quiet ht) k l[k] (List.getElem?_eq_getElem hlt)
      subst hA
      have T := outside_any l[k] S cp wr hok.m
      have HY := Lib.hid (fun (h : okIt l[k] = true) => show (l.take (k + 1)).any badI = false by rw [List.take_succ_eq_append_getElem hlt, List.any_append, ha]; simp [badI, h])
      have HN := Lib.hid (fun (h : okIt l[k] = false) => show l.any badI = true by rw [List.any_eq_true]; exact ⟨l[k], List.getElem_mem hlt, by simp [badI, h]⟩)
      obtain ⟨p, hp⟩ : ∃ p, p = l[k] := ⟨_, rfl⟩
      rw [← hp] at p0 p1 T HY HN
      have T := Lib.hid T
      clear hok hp ha ht
      generalize okIt p = R at *
      cases R with
      | true =>
        have HR := Lib.hid (HY.out rfl)
        go_wp2_with fail
        refine T.out.mono ?_
        rintro r w9 ⟨rfl, t9⟩
        have HT9 := Lib.hid (HT.out.trans t9 (fun _ _ h => h))
        clear t9 T
        go_wp2
        go_roundw
        case rel => exact ⟨k + 1, by omega, by go_num, HR.out, HT9.out⟩
        case measure => simp [intOf]; omega
      | false =>
        have HR := Lib.hid (HN.out rfl)
        go_wp2_with fail
        refine T.out.mono ?_
        rintro r w9 ⟨rfl, t9⟩
        have HT9 := Lib.hid (HT.out.trans t9 (fun _ _ h => h))
        clear t9 T
        go_wp2
        go_ret
        exact ⟨_, rfl, ⟨fun _ => HR.out, fun _ => Int.natCast_nonneg _⟩, HT9.out⟩
    · obtain rfl : k = l.length := by omega
      have HR := Lib.hid (show l.any badI = false by rw [List.take_length] at ha; exact ha)
      clear ha ht
      go_wp2
      go_ret
      exact ⟨_, rfl, ⟨fun h => absurd h (by decide), fun h => by rw [HR.out] at h; cases h⟩, HT.out⟩
set_option maxRecDepth 100000 in
theorem containsBad_any (N : Nat → Prop) (A : Option Addr) (c : Nat) (l : List Itm) (w : World) (hI : ItN w N A l) (hm : l.length ≤ maxLen) :
    Calls Try.prog 40 #[.slice A l.length c, .func (.func 34) #[] #[]] w fun r w' => r = .returned (.bool (l.any badI)) ∧ Turn (fun _ => False) w w' := by
  have T := Lib.hid (indexBad_any N A c l w hI hm)
  clear hI
  go_enter Try.func40, Try.ntmps40
  go_wp2_with fail
  refine T.out.mono ?_
  rintro r w9 ⟨z, rfl, hz, t9⟩
  have HT9 := Lib.hid t9
  have HZ := Lib.hid (show decide (0 ≤ z) = l.any badI by rw [Bool.eq_iff_iff, decide_eq_true_eq]; exact hz)
  clear t9 hz T
  go_wp2
  go_ret
  exact ⟨ret_bool HZ.out, HT9.out⟩

end
section
set_option linter.unusedVariables false
set_option linter.unusedSimpArgs false

open Go.RowKit
set_option maxRecDepth 100000
theorem llast_any (g : Nat) (v : Value) (x : Ln) (w : World) (h : Lat w g v x) : Calls Try.prog 36 #[.pointer (some ⟨g, 0, none⟩)] w fun r w' => r = .returned (.int .i64 x.last) ∧ ∃ n, w' = w.drewN n := by
  obtain ⟨c0, c1, c2⟩ := h.cells
  obtain ⟨A, c, rfl, hc, hm, -⟩ := h.parts
  have hb0 := h.ok.b0
  have hb1 := h.ok.b1
  have hn := h.ok.n
  have HL := Lib.hid (show x.last = x.b + (x.l.length : Int) from rfl)
  generalize x.last = L at *
  generalize x.b = b at *
  generalize x.t = t at *
  generalize x.l.length = n at *
  clear h
  go_enter Try.func36, Try.ntmps36
  go_wp2
  go_quiet (fail)
  go_wp2
  go_ret
  exact ⟨by rw [HL.out]; rfl, _, rfl⟩
theorem lbase_any (g : Nat) (v : Value) (x : Ln) (w : World) (h : Lat w g v x) : Calls Try.prog 47 #[.pointer (some ⟨g, 0, none⟩)] w fun r w' => r = .returned (.tuple #[.int .i64 x.b, .int .i64 x.t]) ∧ ∃ n, w' = w.drewN n := by
  obtain ⟨c0, c1, c2⟩ := h.cells
  generalize x.b = b at *
  generalize x.t = t at *
  clear h
  go_enter Try.func47, Try.ntmps47
  go_wp2
  go_quiet (fail)
  go_wp2
  go_ret2
  exact ⟨rfl, _, rfl⟩
theorem lplace_any (g : Nat) (v : Value) (x : Ln) (w : World) (h : Lat w g v x) (i : Int) (hi : x.b < i) (hi2 : i ≤ x.last + 1) : Calls Try.prog 42 #[.pointer (some ⟨g, 0, none⟩), .int .i64 i] w fun r w' => r = .returned (.int .i64 (i - x.b - 1)) ∧ w' = w := by
  obtain ⟨c0, c1, c2⟩ := h.cells
  have hb0 := h.ok.b0
  have hb1 := h.ok.b1
  have hn := h.ok.n
  unfold Ln.last at hi2
  generalize x.b = b at *
  clear h c1 c2
  generalize x.l.length = n at *
  go_enter Try.func42, Try.ntmps42
  go_wp2
  go_ret
  exact ⟨rfl, rfl⟩
theorem lroom_any (g : Nat) (v : Value) (x : Ln) (w : World) (h : Lat w g v x) (i : Int) : Calls Try.prog 35 #[.pointer (some ⟨g, 0, none⟩), .int .i64 i] w fun r w' => r = .returned (.bool (decide (i ≤ 1099511627776 ∧ i ≤ x.b + 4096))) ∧ w' = w := by
  obtain ⟨c0, c1, c2⟩ := h.cells
  have hb0 := h.ok.b0
  have hb1 := h.ok.b1
  generalize x.b = b at *
  clear h c1 c2
  have H := Lib.hid (show decide (i ≤ 1099511627776 ∧ i ≤ b + 4096) = decide (i ≤ min (1099511627776 : Int) (b + 4096)) by rw [decide_eq_decide]; omega)
  generalize decide (i ≤ 1099511627776 ∧ i ≤ b + 4096) = r at *
  go_enter Try.func35, Try.ntmps35
  go_wp2
  go_ret
  exact ⟨ret_bool H.out.symm, rfl⟩
theorem lhas_any (g : Nat) (v : Value) (x : Ln) (w : World) (h : Lat w g v x) (i : Int) : Calls Try.prog 45 #[.pointer (some ⟨g, 0, none⟩), .int .i64 i] w fun r w' => r = .returned (.bool (decide (x.b < i ∧ i ≤ x.last))) ∧ ∃ n, w' = w.drewN n := by
  obtain ⟨c0, c1, c2⟩ := h.cells
  have T := Lib.hid (llast_any g v x w h)
  generalize x.last = L at *
  generalize x.b = b at *
  clear h c1 c2
  have H := Lib.hid (show decide (b < i ∧ i ≤ L) = (decide (b < i) && decide (i ≤ L)) by rw [Bool.eq_iff_iff]; simp)
  generalize decide (b < i ∧ i ≤ L) = r at *
  by_cases h0 : b < i
  · have HR := Lib.hid (show decide (i ≤ L) = r by rw [H.out, decide_eq_true h0, Bool.true_and])
    clear H
    go_enter Try.func45, Try.ntmps45
    go_wp2_with (go_at_call 36; refine T.out.mono ?_; rintro r w1 ⟨rfl, n1, hw1⟩; rw [hw1]; clear hw1 w1)
    go_ret
    exact ⟨ret_bool HR.out, _, rfl⟩
  · have HR := Lib.hid (show false = r by rw [H.out, decide_eq_false h0, Bool.false_and])
    clear H
    go_enter Try.func45, Try.ntmps45
    go_wp2_with fail
    go_ret
    exact ⟨ret_bool HR.out, 0, rfl⟩

end
end Go.Proofs.Ytgjplbanfnomkaa
