/- The landed letter: bounds. -/
import Derived.Test.YtaicpclkdpbacaaLtL
set_option linter.unusedVariables false
set_option linter.unusedSimpArgs false
namespace Go.Proofs.Ytaicpclkdpbacaa
open Go.RowKit
theorem within_any (n m : Int) (w : World) : Calls Try.prog 39 #[.int .i64 n, .int .i64 m] w fun r w' => r = .returned (.bool (decide (0 ≤ n ∧ n ≤ m))) ∧ w' = w := by
  have H := Lib.hid (show decide (0 ≤ n ∧ n ≤ m) = (decide (0 ≤ n) && decide (n ≤ m)) by rw [Bool.eq_iff_iff]; simp)
  generalize decide (0 ≤ n ∧ n ≤ m) = r at *
  by_cases h0 : 0 ≤ n
  · have HR := Lib.hid (show decide (n ≤ m) = r by rw [H.out]; simp [h0])
    clear H
    go_enter Try.func39, Try.ntmps39
    go_wp2
    go_ret
    exact ⟨ret_bool HR.out, rfl⟩
  · have HR := Lib.hid (show false = r by rw [H.out]; simp [h0])
    clear H
    go_enter Try.func39, Try.ntmps39
    go_wp2
    go_ret
    exact ⟨ret_bool HR.out, rfl⟩
theorem within_in (n : Int) (w : World) : Calls Try.prog 39 #[.int .i64 n, .int .i64 1099511627776] w fun r w' => r = .returned (.bool (decide (inP n))) ∧ w' = w := by
  have h := within_any n 1099511627776 w
  have e : decide (0 ≤ n ∧ n ≤ 1099511627776) = decide (inP n) := by rw [decide_eq_decide]; exact Iff.rfl
  rwa [e] at h
set_option maxRecDepth 100000 in
theorem outside_any (p : Itm) (S : Option Addr) (c : Nat) (w : World) (hm : p.b.length ≤ maxLen) : Calls Try.prog 41 #[.agg #[.int .i64 p.t, .slice S p.b.length c]] w fun r w' => r = .returned (.bool (!okI p)) ∧ Turn (fun _ => False) w w' := by
  obtain ⟨w0, hw0⟩ : ∃ w0, w0 = w.alloc (.cells #[.int .i64 p.t, .slice S p.b.length c] 40) := ⟨_, rfl⟩
  have hT0 : Turn (fun _ => False) w w0 := by rw [hw0]; exact (Turn.refl _ _).alloc _
  have hg0 : w0.heap[w.heap.size]? = some (.cells #[.int .i64 p.t, .slice S p.b.length c] 40 (0, 0)) := by rw [hw0]; exact heap_alloc_new _ _
  obtain ⟨⟨c0, c1⟩, -⟩ := ys_row hg0
  have HT0 := Lib.hid hT0
  have T := within_in p.t w0
  have HO := Lib.hid (show okI p = (decide (inP p.t) && decide (p.b.length ≤ 8192)) from rfl)
  generalize okI p = R at *
  unfold maxLen at hm
  clear hT0 hg0
  by_cases h1 : inP p.t
  · rw [decide_eq_true h1] at T
    have T := Lib.hid T
    have HR := Lib.hid (show decide ((8192 : Int) < (p.b.length : Int)) = !R by rw [HO.out, decide_eq_true h1, Bool.true_and, Bool.eq_iff_iff]; simp; omega)
    clear h1 HO
    go_enter Try.func41, Try.ntmps41
    go_upto_region 1 with fail
    change Code.wp _ _ _ _ (w.alloc (.cells #[.int .i64 p.t, .slice S p.b.length c] 40))
    rw [← hw0]
    clear hw0
    go_wp2_with (go_at_call 39; refine T.out.mono ?_; rintro r w9 ⟨rfl, hw9⟩; rw [hw9]; clear hw9 w9)
    go_ret
    exact ⟨ret_bool HR.out, HT0.out⟩
  · rw [decide_eq_false h1] at T
    have T := Lib.hid T
    have HR := Lib.hid (show true = !R by rw [HO.out, decide_eq_false h1]; rfl)
    clear h1 HO
    go_enter Try.func41, Try.ntmps41
    go_upto_region 1 with fail
    change Code.wp _ _ _ _ (w.alloc (.cells #[.int .i64 p.t, .slice S p.b.length c] 40))
    rw [← hw0]
    clear hw0
    go_wp2_with (go_at_call 39; refine T.out.mono ?_; rintro r w9 ⟨rfl, hw9⟩; rw [hw9]; clear hw9 w9)
    go_ret
    exact ⟨ret_bool HR.out, HT0.out⟩
def badI (p : Itm) : Bool := !okI p
set_option maxRecDepth 100000 in
set_option maxHeartbeats 4000000 in
theorem indexBad_any (N : Nat → Prop) (A : Option Addr) (c : Nat) (l : List Itm) (w : World) (hI : ItN w N A l) (hm : l.length ≤ maxLen) :
    Calls Try.prog 55 #[.slice A l.length c, .func (.func 41) #[] #[]] w fun r w' => ∃ z : Int, r = .returned (.int .i64 z) ∧ (0 ≤ z ↔ l.any badI = true) ∧ Turn (fun _ => False) w w' := by
  unfold maxLen at hm
  have HI := Lib.hid hI
  clear hI
  go_enter Try.func55, Try.ntmps55
  go_wp2
  go_loopw [8] (fun i wr => ∃ k : Nat, k ≤ l.length ∧ i = .int .i64 k ∧ (l.take k).any badI = false ∧ Turn (fun _ => False) w wr) (fun i _ => l.length - (intOf i).toNat)
  case atStart => exact ⟨0, Nat.zero_le _, rfl, rfl, Turn.refl _ _⟩
  case round =>
    obtain ⟨k, hk, rfl, ha, ht⟩ := hrel
    have HT := Lib.hid ht
    by_cases hlt : k < l.length
    · obtain ⟨hok, b, o, S, cp, hA, -, -, p0, p1⟩ := (HI.out.quiet ht) k l[k] (List.getElem?_eq_getElem hlt)
      subst hA
      have T := outside_any l[k] S cp wr hok.m
      have HY := Lib.hid (fun (h : okI l[k] = true) => show (l.take (k + 1)).any badI = false by rw [List.take_succ_eq_append_getElem hlt, List.any_append, ha]; simp [badI, h])
      have HN := Lib.hid (fun (h : okI l[k] = false) => show l.any badI = true by rw [List.any_eq_true]; exact ⟨l[k], List.getElem_mem hlt, by simp [badI, h]⟩)
      obtain ⟨p, hp⟩ : ∃ p, p = l[k] := ⟨_, rfl⟩
      rw [← hp] at p0 p1 T HY HN
      have T := Lib.hid T
      clear hok hp ha ht
      generalize okI p = R at *
      cases R with
      | true =>
        have HR := Lib.hid (HY.out rfl)
        go_wp2_with fail
        refine T.out.mono ?_
        rintro r w9 ⟨rfl, t9⟩
        have HT9 := Lib.hid (HT.out.trans t9 (fun _ _ h => h))
        clear t9 T
        go_wp2
        go_roundw
        case rel => exact ⟨k + 1, by omega, by go_num, HR.out, HT9.out⟩
        case measure => simp [intOf]; omega
      | false =>
        have HR := Lib.hid (HN.out rfl)
        go_wp2_with fail
        refine T.out.mono ?_
        rintro r w9 ⟨rfl, t9⟩
        have HT9 := Lib.hid (HT.out.trans t9 (fun _ _ h => h))
        clear t9 T
        go_wp2
        go_ret
        exact ⟨_, rfl, ⟨fun _ => HR.out, fun _ => Int.natCast_nonneg _⟩, HT9.out⟩
    · obtain rfl : k = l.length := by omega
      have HR := Lib.hid (show l.any badI = false by rw [List.take_length] at ha; exact ha)
      clear ha ht
      go_wp2
      go_ret
      exact ⟨_, rfl, ⟨fun h => absurd h (by decide), fun h => by rw [HR.out] at h; cases h⟩, HT.out⟩
set_option maxRecDepth 100000 in
theorem containsBad_any (N : Nat → Prop) (A : Option Addr) (c : Nat) (l : List Itm) (w : World) (hI : ItN w N A l) (hm : l.length ≤ maxLen) :
    Calls Try.prog 40 #[.slice A l.length c, .func (.func 41) #[] #[]] w fun r w' => r = .returned (.bool (l.any badI)) ∧ Turn (fun _ => False) w w' := by
  have T := Lib.hid (indexBad_any N A c l w hI hm)
  clear hI
  go_enter Try.func40, Try.ntmps40
  go_wp2_with fail
  refine T.out.mono ?_
  rintro r w9 ⟨z, rfl, hz, t9⟩
  have HT9 := Lib.hid t9
  have HZ := Lib.hid (show decide (0 ≤ z) = l.any badI by rw [Bool.eq_iff_iff, decide_eq_true_eq]; exact hz)
  clear t9 hz T
  go_wp2
  go_ret
  exact ⟨ret_bool HZ.out, HT9.out⟩
end Go.Proofs.Ytaicpclkdpbacaa
